import PyProof.Rows.All
import HandS.GenList
import HandS.Comp
import Wide.All
import OpenK.AllK
import Wide.FinOn
import HandS.ForMost
import HandS.Flow
import HandS.Codes
import HandS.IsInst
import HandS.TupLe
import HandS.TupAny
import HandS.Defaults
import HandS.Lambda
import HandS.Rev
import HandS.More
import HandS.SortKw
import PyProof.MinMaxWalk
import PyProof.WalkInts
import PyProof.AutoSeq1
import KE.SortData
import HandS.Star
import HandS.SortOrd
import HandS.SetFor
import HandS.SetKeys
import HandS.FStr
import HandS.DictComp
import HandS.Deep
import HandS.Text
import HandS.Iter
import PyProof.DictUpdate
import KE.SortKeyHeap
import HandS.Conv
import HandS.Zip
import HandS.MakeKw
import KE.GoesZip
import KE.KDictZip
import KE.GoesMore
import HandS.ExcValue
import KE.GoesEnum
import PyProof.Rows.StrRev
import HandS.Ends
import HandS.HeadEnd
import PyProof.ReprRoads
import KE.KDictList
import PyProof.TupleOfGen
import PyProof.CollectWalk
import PyProof.ListStr
import PySem.Challenge.RW_eacharm_k01_settings_of_a_condition
import HandS.SetBool
import PyProof.ReprBulk
import Lean
import KE.KStateDown
import HandS.Words
import HandS.WordsExc
import HandS.Head0
import HandS.Head1
import HandS.Head2
import HandS.HeadHook1
import HandS.HeadHook2
import HandS.HeadHook3
import HandS.HeadHook4
import HandS.HeadWalk
set_option Elab.async false
set_option linter.all false
set_option maxRecDepth 100000
set_option maxHeartbeats 0
/-! a generator whose consumer is a comprehension: S the list that it fills, L the names of its block -/
namespace L2
open PySem PySem.Spec PyProof.Rows GenW
/-- names of a block -/
def GzNs (o : Obj) : Prop := ∃ (m : Str → Option Value) (es : Array DictEntry) (ep : Nat), o.data = .dict es ep ∧ StrKeys es ∧ ∀ name, nsFind es name = m name
theorem GzNs.noc {o : Obj} (h : GzNs o) : ∀ v, o.data ≠ .cell v := fun v e => by
  obtain ⟨_, _, _, d, _⟩ := h
  rw [d] at e
  cases e
/-- while the generator sleeps: v goes behind the list at S, the block's names at L may turn -/
structure GzNap (S L : Addr) (v : Value) (s s' : Shared) : Prop where
  os : s'.os = s.os
  bare : AllBare s'.gens
  keep : ∀ b o, b ≠ S → b ≠ L → s.heap.get? b = some o → s'.heap.get? b = some o
  own : ∀ acc c, s.heap.get? S = some (lstObj acc c) → ∃ c', s'.heap.get? S = some (lstObj (acc.push v) c')
  loc : ∀ o, s.heap.get? L = some o → GzNs o → ∃ o', s'.heap.get? L = some o' ∧ GzNs o'
def GzI (X : Cx) (S L : Addr) (ip : List (Addr × Obj)) (ys : List V) (σ : St) (H : Hp) (s : Shared) : Prop :=
  ∃ (acc : Array Value) (c : Nat) (oL : Obj), (Vals ys acc.toList ∧ GzNs oL) ∧ Inv X ((S, lstObj acc c) :: (L, oL) :: ip) σ H s
section
variable {X : Cx} {S L : Addr} {ip : List (Addr × Obj)} {ys : List V} {σ : St} {H : Hp} {s s' : Shared}
theorem GzI.atS (h : GzI X S L ip ys σ H s) : H S = none ∧ S ≠ X.env.locals ∧ S ∉ X.fs ∧ ∃ (acc : Array Value) (c : Nat), Vals ys acc.toList ∧ s.heap.get? S = some (lstObj acc c) := by
  obtain ⟨acc, c, oL, r, I⟩ := h
  obtain ⟨h1, h2, h3, h4, _⟩ := I.pin (S, lstObj acc c) (List.mem_append_right _ List.mem_cons_self)
  exact ⟨h2, h3, h4, acc, c, r.1, h1⟩
theorem GzI.atL (h : GzI X S L ip ys σ H s) : H L = none ∧ L ≠ X.env.locals ∧ L ∉ X.fs ∧ ∃ o, s.heap.get? L = some o ∧ GzNs o := by
  obtain ⟨acc, c, oL, r, I⟩ := h
  obtain ⟨h1, h2, h3, h4, h5⟩ := I.pin (L, oL) (List.mem_append_right _ (List.mem_cons_of_mem _ List.mem_cons_self))
  exact ⟨h2, h3, h4, oL, h1, r.2⟩
/-- woken -/
theorem GzI.woken {x : V} {v : Value} (hpn : ∀ p ∈ X.pn, p.1 ≠ S ∧ p.1 ≠ L) (hip : ∀ p ∈ ip, p.1 ≠ S ∧ p.1 ≠ L) (hS : Apart X S) (hL : Apart X L) (h : GzI X S L ip ys σ H s) (rv : RelV x v) (z : GzNap S L v s s') : GzI X S L ip (ys ++ [x]) σ H s' := by
  obtain ⟨hS0, hS1, hS2, _⟩ := h.atS
  obtain ⟨hL0, hL1, hL2, oL0, eL0, dL0⟩ := h.atL
  obtain ⟨acc, c, oL, r, I⟩ := h
  have eS := (I.pin (S, lstObj acc c) (List.mem_append_right _ List.mem_cons_self)).1
  have I0 : Inv X ip σ H s := I.pins_of fun p hp => I.pin p (List.mem_append_right _ (List.mem_cons_of_mem _ (List.mem_cons_of_mem _ hp)))
  have off : ∀ b, b ∉ [S, L] → b ≠ S ∧ b ≠ L := fun b hb => ⟨fun e => hb (by simp [e]), fun e => hb (by simp [e])⟩
  have tr : ∀ b u, H b = some u → b ≠ S ∧ b ≠ L := fun b u q => ⟨fun e => (by rw [e, hS0] at q; cases q), fun e => (by rw [e, hL0] at q; cases q)⟩
  obtain ⟨zo, zb, zk, zw, zl⟩ := z
  obtain ⟨c', eS'⟩ := zw acc c eS
  obtain ⟨oL', eL', dL'⟩ := zl oL0 eL0 dL0
  obtain ⟨hh, g, d, t, o⟩ := s'
  have zo : o = s.os := zo
  subst zo
  have kp : ∀ b ob, b ∉ [S, L] → s.heap.get? b = some ob → hh.get? b = some ob := fun b ob hb q => zk b ob (off b hb).1 (off b hb).2 q
  have J : Inv X ip σ H { s with heap := hh, gens := g, drawn := d, toks := t } := by
    refine I0.step (g' := g) (t' := t) (d' := d) (ch := [S, L]) (fun b hb => ?_) (fun b ob _ _ hc q _ => kp b ob hc q) (fun b ob _ _ hc q _ => ⟨ob.slots, kp b ob hc q⟩) (fun _ _ _ _ n => n) (fun b ob hc q => ⟨ob, kp b ob hc q⟩)
      (fun _ _ q => q) (fun _ _ _ q => q) (fun b ps q => ⟨#[], by rw [q]; simp⟩) (fun m hm => ?_) (fun b u q => ?_) zb
    · simp only [List.mem_cons, List.not_mem_nil, or_false] at hb
      rcases hb with rfl | rfl
      · exact ⟨.inr hS.1, hS.2.1, hS.2.2, fun p hp => (List.mem_append.mp hp).elim (fun k => (hpn p k).1) fun k => (hip p k).1⟩
      · exact ⟨.inr hL.1, hL.2.1, hL.2.2, fun p hp => (List.mem_append.mp hp).elim (fun k => (hpn p k).2) fun k => (hip p k).2⟩
    · obtain ⟨ob, es, ep, ho, r⟩ := hm
      exact ⟨ob, es, ep, zk _ ob (Ne.symm hS1) (Ne.symm hL1) ho, r⟩
    · refine (I0.hok b u q).stay (fun c v hc y => ?_) (fun _ y => y) fun _ _ y => y
      rcases hc with k | k
      · rw [k] at y ⊢; exact zk b v (tr b u q).1 (tr b u q).2 y
      · exact zk c v (tr c _ k).1 (tr c _ k).2 y
  refine ⟨acc.push v, c', oL', ?_, J.pins_of fun p hp => ?_⟩
  · rw [Array.toList_push]; exact ⟨r.1.append (.cons rv .nil), dL'⟩
  · rcases List.mem_cons.mp hp with k | k
    · rw [k]; exact ⟨eS', hS0, hS1, hS2, fun v q => by cases q⟩
    · rcases List.mem_cons.mp k with k | k
      · rw [k]; exact ⟨eL', hL0, hL1, hL2, dL'.noc⟩
      · exact J.pin p (List.mem_append_right _ k)
end
/-- an item goes out -/
def GzY (X : Cx) (S L : Addr) : Protocol := fun n s₀ v s kap =>
  ∃ ys x ip σ H, n + 1 + ys.length = sizeLine ∧ RelV x v ∧ GzI X S L ip ys σ H s ∧ ∀ s', GzNap S L v s s' → kap (.send .none) s'
def GzR (X : Cx) (S L : Addr) (Q : List V → VK) (F : Value → Shared → Prop) : GenEnd := fun n s₀ r s => match r with
  | .ok (.ret u) => ∃ ys v ip σ H, n + ys.length = sizeLine ∧ GzI X S L ip ys σ H s ∧ RelV v u ∧ Q ys v H
  | .ok _ => False
  | .error e => F e s
def GzP (X : Cx) (S L : Addr) (ip : List (Addr × Obj)) (D : GEnds) (ys : List V) (f : Flow) (s : Shared) : Prop :=
  match f with
  | .next => ∃ σ H, GzI X S L ip ys σ H s ∧ D.nx ys σ H
  | .brk => ∃ σ H, GzI X S L ip ys σ H s ∧ D.bk ys σ H
  | .cont => ∃ σ H, GzI X S L ip ys σ H s ∧ D.ct ys σ H
  | .ret u => ∃ v σ H, GzI X S L ip ys σ H s ∧ RelV v u ∧ D.rt ys v H
/-- where its code stands -/
structure GzC (X : Cx) (S L : Addr) (ip : List (Addr × Obj)) (A : Around) (c : Code) (fs : List Frame) (gd : Bool → Bool) : Prop where
  pn : ∀ p ∈ X.pn, p.1 ≠ S ∧ p.1 ≠ L
  ip : ∀ p ∈ ip, p.1 ≠ S ∧ p.1 ≠ L
  aS : Apart X S
  aL : Apart X L
  over : A.over c fs = X.A
  split : splitAtGen fs = none
  guard : fs.any Frame.guarded = false
  gd : gd false = false
structure GzK (X : Cx) (S L : Addr) (ip : List (Addr × Obj)) (A : Around) (R : GenEnd) (c : Code) (fs : List Frame) (K : Flow → Sem PySem.Fin) (J : Value → Sem PySem.Fin) (D : GEnds) : Prop where
  ok : ∀ (n : Nat) (ys : List V) (s₀ s : Shared) (f : Flow), n + ys.length = sizeLine → GzP X S L ip D ys f s → Seg (model X.prog X.w) A R (GzY X S L) n s₀ c (K f) fs s
  exc : ∀ (n : Nat) (s₀ : Shared) (e : Value) (s : Shared), X.xe e s → Seg (model X.prog X.w) A R (GzY X S L) n s₀ c (J e) fs s
def GzRun (X : Cx) (m : Sem Flow) (t : TGn) : Prop :=
  ∀ (A : Around) (S L : Addr) (ip : List (Addr × Obj)) (R : GenEnd) (n : Nat) (ys : List V) (s₀ : Shared) (c : Code) (fs : List Frame) (K : Flow → Sem PySem.Fin) (J : Value → Sem PySem.Fin) (gd : Bool → Bool) (lv : List Value → List Value) (s : Shared) (σ : St) (H : Hp) (D : GEnds),
    GzC X S L ip A c fs gd → n + ys.length = sizeLine → GzK X S L ip A R c fs K J D → GzI X S L ip ys σ H s → t D ys σ H → Seg (model X.prog X.w) A R (GzY X S L) n s₀ c (m.wrap K J gd lv) fs s
structure GzS (X : Cx) (st : Stmt) (t : TGn) : Prop where
  run : GzRun X (exec st X.env) t
structure GzSs (X : Cx) (st : List Stmt) (t : TGn) : Prop where
  run : GzRun X (execs st X.env) t
section
variable {X : Cx} {st : Stmt} {rest : List Stmt} {e : Expr} {yp pos : Pos}
theorem rp_sp {S L : Addr} {acc : Array Value} {c : Nat} {oL : Obj} {ip : List (Addr × Obj)} {s : Shared} {D : GEnds} {ys : List V} {f : Flow} (r : Vals ys acc.toList ∧ GzNs oL) (h : SP X ((S, lstObj acc c) :: (L, oL) :: ip) (D.at ys) f s) : GzP X S L ip D ys f s := by
  cases f with
  | ret u => obtain ⟨v, σ, H, I, q⟩ := h; exact ⟨v, σ, H, ⟨acc, c, oL, r, I⟩, q⟩
  | _ => obtain ⟨σ, H, I, q⟩ := h; exact ⟨σ, H, ⟨acc, c, oL, r, I⟩, q⟩
theorem es_ps {t : TS} (h : PS X st t) : GzS X st (tPlain t) := ⟨fun A S L ip R n ys s₀ c fs K J gd lv s σ H D g hn k hI ht => by
  obtain ⟨acc, cc, oL, r, I⟩ := hI
  refine seg_wrap ?_
  rw [g.over]
  exact wpAny_mono (h.run _ s σ H (D.at ys) I ht) (fun f s' hs => k.ok n ys s₀ s' f hn (rp_sp r hs)) fun x s' hx => k.exc n s₀ x s' hx⟩
theorem es_nil : GzSs X [] tG0 := ⟨fun A S L ip R n ys s₀ c fs K J gd lv s σ H D g hn k hI ht => seg_execs_nil (k.ok n ys s₀ s .next hn ⟨σ, H, hI, ht⟩)⟩
theorem es_cons {t u : TGn} (a : GzS X st t) (b : GzSs X rest u) : GzSs X (st :: rest) (tGThen t u) := ⟨fun A S L ip R n ys s₀ c fs K J gd lv s σ H D g hn k hI ht => by
  refine seg_execs_cons (a.run A S L ip R n ys s₀ c fs _ J gd lv s σ H _ g hn ⟨fun n' ys' s₀' s' f hn' hs => ?_, k.exc⟩ hI ht)
  cases f with
  | next => obtain ⟨σ', H', I', q⟩ := hs; exact b.run A S L ip R n' ys' s₀' c fs K J gd lv s' σ' H' D g hn' k I' q
  | brk => exact k.ok n' ys' s₀' s' .brk hn' hs
  | cont => exact k.ok n' ys' s₀' s' .cont hn' hs
  | ret u => exact k.ok n' ys' s₀' s' (.ret u) hn' hs⟩
theorem es_yield {te : TE} (he : PE X e te) (hco : X.env.scope.isCoroutine = false := by rfl) (hi : interactive X.env = false := by rfl) : GzS X (.Expr (.Yield (some e) yp) pos) (tGYield te) := ⟨fun A S L ip R n ys s₀ c fs K J gd lv s σ H D g hn k hI ht => by
  obtain ⟨hlt, ht⟩ := ht
  cases n with
  | zero => omega
  | succ n =>
    obtain ⟨acc, cc, oL, r, I⟩ := hI
    refine seg_Expr_Yield g.split g.gd g.guard ?_ hco hi
    rw [g.over]
    refine wpAny_mono (he.run _ s σ H _ I ht) (fun v s' ⟨x, H1, I1, rv, q⟩ kap hk => ?_) fun x s' hx => k.exc _ s₀ x s' hx
    have G1 : GzI X S L ip ys σ H1 s' := ⟨acc, cc, oL, r, I1⟩
    refine ⟨ys, x, ip, σ, H1, hn, rv, G1, fun s'' z => hk .none s'' ?_⟩
    exact k.ok n (ys ++ [x]) s'' s'' .next (by rw [List.length_append, List.length_singleton]; omega) ⟨σ, H1, G1.woken g.pn g.ip g.aS g.aL rv z, q⟩⟩
theorem rc_loop {S L : Addr} {ip ip' : List (Addr × Obj)} {A : Around} {c c' : Code} {fs : List Frame} {gd : Bool → Bool} {k : Result → Sem PySem.Fin} {l kp : List Value} {p : Pos} (g : GzC X S L ip A c fs gd) (hip : ∀ p ∈ ip', p.1 ≠ S ∧ p.1 ≠ L) (hw : c'.weight = 0) (hu : c'.cUnits = 0) :
    GzC X S L ip' A c' (.ret k none (gd false) l c p kp :: fs) id where
  pn := g.pn
  ip := hip
  aS := g.aS
  aL := g.aL
  over := (over_loop hw hu).trans g.over
  split := by
    show (splitAtGen fs).map _ = none
    rw [g.split]; rfl
  guard := by
    show (gd false || fs.any Frame.guarded) = false
    rw [g.gd, g.guard]; rfl
  gd := rfl
theorem seg_back {S L : Addr} {ip : List (Addr × Obj)} {A : Around} {R : GenEnd} {c : Code} {fs : List Frame} {K : Flow → Sem PySem.Fin} {J : Value → Sem PySem.Fin} {gd : Bool → Bool} {lv : List Value → List Value} {D : GEnds} {n : Nat} {s₀ s : Shared} {e : Value}
    (g : GzC X S L ip A c fs gd) (k : GzK X S L ip A R c fs K J D) (h : cameBackBy (model X.prog X.w) X.A X.env X.xe e s) : Seg (model X.prog X.w) A R (GzY X S L) n s₀ c (((Sem.raise e : Sem Flow).onRaise (cameBack X.env)).wrap K J gd lv) fs s := by
  show Seg _ _ _ _ _ _ _ (((cameBack X.env e).bind fun _ => (Sem.raise e : Sem Flow)).wrap K J gd lv) _ _
  rw [Sem.bind_eq_wrap, Sem.wrap_wrap]
  refine seg_wrap ?_
  rw [g.over]
  exact wpAny_mono h (fun _ s' hx => k.exc n s₀ e s' hx) fun x s' hx => k.exc n s₀ x s' hx
/-! ### for -/
def tGFor (wi : TI) (g : TG) (tb : TGn) : TGn := fun D ys σ H => wi σ H fun J H1 => ∃ W : Nat → Nat → List V → St → Hp → Prop, (∃ m, W 0 m ys σ H1) ∧ ∀ i m ys σ H, W i m ys σ H →
  (J.stop i H ∧ D.nx ys σ H) ∨ (J.go i H ∧ ∃ N : List V → St → Hp → Prop, (∀ ys' σ' H', N ys' σ' H' → ∃ m', m' < m ∧ W (i + 1) m' ys' σ' H') ∧ ∀ x H', J.yld i H x H' → g x σ H' fun σ2 H2 => tb { D with nx := N, ct := N, bk := D.nx } ys σ2 H2)
theorem es_for {tg iter : Expr} {body : List Stmt} {wi : TI} {gg : TG} {tb : TGn} (hp : PassesOwn (model X.prog X.w) X.A X.env X.xe) (hc : X.calm = true) (hi : PI X tg iter wi) (hg : PG X tg gg) (hb : GzSs X body tb)
    (hs : ∀ x, foldedSetIterable iter X.env x = pure x := by intro _; rfl) : GzS X (.For tg iter body [] pos) (tGFor wi gg tb) := ⟨fun A S L ip R n ys s₀ c fs K J gd lv s σ H D g hn k hI ht => by
  obtain ⟨acc, cc, oL, r, I⟩ := hI
  rw [exec_For]
  refine seg_bind_wrap (wpAny_standAt ?_)
  refine seg_bind_wrap ?_
  rw [g.over]
  refine wpAny_mono (hi.run _ s σ H _ I ht) (fun v s1 h1 => ?_) fun x s' hx => k.exc n s₀ x s' hx
  refine seg_bind_wrap (wpAny_of_eq (hs v) ?_)
  refine seg_bind_wrap (wpAny_standAt ?_)
  refine seg_bind_wrap (wpAny_holding ?_)
  rw [g.over]
  refine wpAny_mono h1 (fun itv s2 h2 => ?_) fun x s' hx => k.exc n s₀ x s' hx
  obtain ⟨it, fp, tn, J2, H2, e, I2, T, st2, f2, W, ⟨m0, w0⟩, turn⟩ := h2
  subst e
  refine seg_call fun p => ?_
  have fpx : ∀ b ∈ fp, S ≠ b ∧ L ≠ b := fun b hb => by
    have q := (f2 b hb).2.2.2.2.2
    exact ⟨q (S, lstObj acc cc) (List.mem_append_right _ List.mem_cons_self), q (L, oL) (List.mem_append_right _ (List.mem_cons_of_mem _ List.mem_cons_self))⟩
  have stat : ∀ {acc' : Array Value} {cc' : Nat} {oL' : Obj} {H' : Hp}, (∀ b ∈ fp, H' b = none) → ∀ b ∈ fp, FpOk X ((S, lstObj acc' cc') :: (L, oL') :: ip) H' b := fun {acc' cc' oL' H'} hn b hb => by
    obtain ⟨_, q1, q2, q3, q4, q5⟩ := f2 b hb
    refine ⟨hn b hb, q1, q2, q3, q4, fun pp hpp => ?_⟩
    rcases List.mem_append.mp hpp with z | z
    · exact q5 pp (List.mem_append_left _ z)
    · rcases List.mem_cons.mp z with z | z
      · rw [z]; exact (fpx b hb).1
      · rcases List.mem_cons.mp z with z | z
        · rw [z]; exact (fpx b hb).2
        · exact q5 pp (List.mem_append_right _ (List.mem_cons_of_mem _ (List.mem_cons_of_mem _ z)))
  have gl := fun (kk : Result → Sem PySem.Fin) (ip' : List (Addr × Obj)) (hip : ∀ p ∈ ip', p.1 ≠ S ∧ p.1 ≠ L) => rc_loop (k := kk) (c' := .forLoop tg (.ref it) body [] X.env) (ip' := ip') (l := lv []) (kp := []) (p := p) g hip rfl rfl
  have ee : ∀ (n : Nat) (s₀ : Shared) (x : Value) (s' : Shared), X.xe x s' → Seg (model X.prog X.w) A R (GzY X S L) n s₀ (.forLoop tg (.ref it) body [] X.env) ((do noteFrame x X.env; theTreesLotGoes x : Sem Unit).bind fun _ => (.raise x : Sem PySem.Fin))
      (.ret (fun r => ((match r with | .ok f => (.pure f : Sem Flow) | .error e => .raise e).onRaise (cameBack X.env)).wrap K J gd lv) none (gd false) (lv []) c p [] :: fs) s' := fun n s₀ x s' hx => by
    rw [Sem.bind_eq_wrap]
    refine seg_wrap ?_
    rw [(gl _ ip g.ip).over]
    exact wpAny_bind (wpAny_mono (hp x s' hx) (fun _ s'' hcb => wpAny_theTreesLotGoes (seg_leaf (.error x) (seg_back g k hcb))) fun y s'' hcb => seg_leaf (.error y) (seg_back g k hcb))
  have loop : ∀ (m i n : Nat) (ys : List V) (s₀ s : Shared) (σ : St) (H : Hp), n + ys.length = sizeLine → W i m ys σ H → GzI X S L ip ys σ H s → tn i s.heap → (∀ b ∈ fp, H b = none) →
      Seg (model X.prog X.w) A R (GzY X S L) n s₀ (.forLoop tg (.ref it) body [] X.env) ((model X.prog X.w).den (.forLoop tg (.ref it) body [] X.env))
        (.ret (fun r => ((match r with | .ok f => (.pure f : Sem Flow) | .error e => .raise e).onRaise (cameBack X.env)).wrap K J gd lv) none (gd false) (lv []) c p [] :: fs) s := by
    intro m
    induction m using Nat.strongRecOn with
    | ind m ih =>
      intro i n ys s₀ s σ H hn w hI st fr
      obtain ⟨acc, cc, oL, r, I⟩ := hI
      show Seg _ _ _ _ _ _ _ ((forTurn tg (.ref it) body [] X.env).onRaise (fun x => do noteFrame x X.env; theTreesLotGoes x)) _ _
      unfold forTurn
      rw [Sem.onRaise_eq_wrap]
      refine seg_bind_wrap (wpAny_standAt ?_)
      refine seg_bind_wrap (wpAny_onRaise ?_)
      rw [(gl _ ip g.ip).over]
      rcases turn i m ys σ H w with ⟨stop, qn⟩ | ⟨go, N, hN, step⟩
      · refine wpAny_mono (T.done X rfl rfl rfl hc i _ s σ H (fun _ _ => False) I (stat fr) st stop) (fun r' s4 ⟨hr, I4⟩ => ?_) fun _ _ z => z.elim
        subst hr
        refine seg_again rfl ?_
        exact seg_leaf (.ok .next) (k.ok n ys s₀ s4 .next hn ⟨σ, H, ⟨acc, cc, oL, r, I4⟩, qn⟩)
      · refine wpAny_mono (T.item X rfl rfl rfl hc i _ s σ H (fun _ _ => False) I (stat fr) st go) (fun r' s4 ⟨u, hr, h4⟩ => ?_) fun _ _ z => z.elim
        subst hr
        refine seg_bind_wrap ?_
        rw [(gl _ ip g.ip).over]
        refine wpAny_mono h4 (fun _ s5 ⟨x, H5, I5, r5, y5, st5, fr5⟩ => ?_) fun _ _ z => z.elim
        have I5' := I5.pinned (stat fr5) (T.obj _ _ st5)
        have hip' : ∀ q ∈ ip ++ pinsAt fp s5.heap, q.1 ≠ S ∧ q.1 ≠ L := fun q hq => by
          rcases List.mem_append.mp hq with z | z
          · exact g.ip q z
          · have := fpx q.1 (of_pinsAt z).1
            exact ⟨Ne.symm this.1, Ne.symm this.2⟩
        refine seg_bind_wrap ?_
        rw [(gl _ ip g.ip).over]
        refine wpAny_mono (hg.run _ s5 σ H5 x u _ I5' r5 (step x H5 y5)) (fun _ s6 ⟨σ6, H6, I6, q6⟩ => ?_) fun x s' hx => ee n s₀ x s' hx
        rw [Sem.bind_eq_wrap', Sem.wrap_wrap]
        refine hb.run A S L (ip ++ pinsAt fp s5.heap) R n ys s₀ _ _ _ _ _ _ s6 σ6 H6 { D with nx := N, ct := N, bk := D.nx } (gl _ _ hip') hn ⟨fun n' ys' s₀' s7 f hn' q7 => ?_, fun n' s₀' x s7 hx => ee n' s₀' x s7 hx⟩ ⟨acc, cc, oL, r, I6⟩ q6
        have unp : ∀ {σ7 : St} {H7 : Hp}, GzI X S L (ip ++ pinsAt fp s5.heap) ys' σ7 H7 s7 → GzI X S L ip ys' σ7 H7 s7 ∧ tn (i + 1) s7.heap ∧ ∀ b ∈ fp, H7 b = none := fun {σ7 H7} ⟨acc7, cc7, oL7, r7, J7⟩ => by
          have J8 : Inv X (((S, lstObj acc7 cc7) :: (L, oL7) :: ip) ++ pinsAt fp s5.heap) σ7 H7 s7 := J7
          refine ⟨⟨acc7, cc7, oL7, r7, J8.unpinned⟩, T.keep _ _ _ st5 fun b hb o e => (J8.pin (b, o) (List.mem_append_right _ (List.mem_append_right _ (mem_pinsAt hb e)))).1, fun b hb => ?_⟩
          obtain ⟨o, e, _⟩ := T.obj _ _ st5 b hb
          exact (J8.pin (b, o) (List.mem_append_right _ (List.mem_append_right _ (mem_pinsAt hb e)))).2.1
        cases f with
        | next =>
          obtain ⟨σ7, H7, I7, n7⟩ := q7
          obtain ⟨m', hm, w7⟩ := hN ys' σ7 H7 n7
          obtain ⟨u1, u2, u3⟩ := unp I7
          exact seg_again rfl (ih m' hm (i + 1) n' ys' s₀' s7 σ7 H7 hn' w7 u1 u2 u3)
        | cont =>
          obtain ⟨σ7, H7, I7, n7⟩ := q7
          obtain ⟨m', hm, w7⟩ := hN ys' σ7 H7 n7
          obtain ⟨u1, u2, u3⟩ := unp I7
          exact seg_again rfl (ih m' hm (i + 1) n' ys' s₀' s7 σ7 H7 hn' w7 u1 u2 u3)
        | brk =>
          obtain ⟨σ7, H7, I7, q7⟩ := q7
          exact seg_leaf (.ok .next) (k.ok n' ys' s₀' s7 .next hn' ⟨σ7, H7, (unp I7).1, q7⟩)
        | ret v =>
          obtain ⟨x7, σ7, H7, I7, r7, q7⟩ := q7
          exact seg_leaf (.ok (.ret v)) (k.ok n' ys' s₀' s7 (.ret v) hn' ⟨x7, σ7, H7, (unp I7).1, r7, q7⟩)
  exact loop m0 0 n ys s₀ s2 σ H2 hn w0 ⟨acc, cc, oL, r, I2⟩ st2 fun b hb => (f2 b hb).1⟩
end
end L2

/-! a generator def that a comprehension reads: its promise -/
namespace L2
open PySem PySem.Spec PyProof.Rows GenW
/-- the end of a run -/
def ZEnd (P : Program) (w : World) (outer : List Env) (H : Hp) (s : Shared) (S L a : Addr) (g : Nat) (Q : List V → Hp → Prop) (E : XK) : GenEnd := fun n s₀ r s1 =>
  ((r = .ok (.ret .none) ∨ r = .ok .next) ∧ ∃ H' ys acc c, (s1.os = s.os ∧ AllBare s1.gens) ∧ Un (frs outer) [] H H' s.heap s1.heap ∧ HOk P w H' s1.heap ∧ (H' S = none ∧ H' L = none) ∧ (∃ o, s1.heap.get? L = some o ∧ GzNs o) ∧ s1.heap.get? S = some (lstObj acc c) ∧ Vals ys acc.toList ∧ ys.length ≤ sizeLine ∧ Q ys H') ∨
  ∃ e, r = .error e ∧ CX P w outer H s E e s1 ∧ s1.heap.IsGen a g
/-- an item goes out -/
def ZItem (s : Shared) (S L a : Addr) (g : Nat) : Protocol := fun n s₀ v s1 kap =>
  s1.os = s.os ∧ AllBare s1.gens ∧ s1.heap.NoLimit ∧ s1.heap.IsGen a g ∧ (∃ (acc : Array Value) (c : Nat), s1.heap.get? S = some (lstObj acc c) ∧ n + 1 + acc.size = sizeLine) ∧ (∃ o, s1.heap.get? L = some o ∧ GzNs o) ∧ ∀ s', GzNap S L v s1 s' → kap (.send .none) s'
/-- what the call gives -/
def ZMade (P : Program) (w : World) (k : Nat) (outer : List Env) (H : Hp) (s : Shared) (Q : List V → Hp → Prop) (E : XK) (u : Value) (s' : Shared) : Prop :=
  ∃ (a : Addr) (g : Nat) (c : Code), u = .ref a ∧ (s.heap.objs.size ≤ a ∧ a < s'.heap.objs.size) ∧ s'.heap.IsGen a g ∧ s'.gens[g]? = some (.fresh c) ∧ (s'.os = s.os ∧ AllBare s'.gens ∧ s'.heap.NoLimit) ∧ (∀ b o, s.heap.get? b = some o → s'.heap.get? b = some o) ∧
    ∀ (A : Around) (S L : Addr) (s2 : Shared), Room k A → A.frames = some outer → s'.heap.objs.size ≤ S → s'.heap.objs.size ≤ L → (∀ b o, s'.heap.get? b = some o → s2.heap.get? b = some o) → (∃ c, s2.heap.get? S = some (lstObj #[] c)) → (∃ o, s2.heap.get? L = some o ∧ GzNs o) → s2.os = s.os → AllBare s2.gens →
      Seg (model P w) A (ZEnd P w outer H s S L a g Q E) (ZItem s S L a g) sizeLine s2 c ((model P w).den c) [] s2
structure ZFn (P : Program) (w : World) (K : PySem.W.Frag) (mg : Str → Option Value) (base : Heap) (k : Nat) (f : Addr) (fd : FuncData) (ps : List Str) (sp : SpG) : Prop where
  len : ∀ vs H Q E, sp vs H Q E → vs.length = ps.length
  run : ∀ (A : Around) (outer : List Env) (s : Shared) (H : Hp) (args : Args) (us : List Value) (vs : List V) (Q : List V → Hp → Prop) (E : XK), Room k A → Env0 P w K mg base A outer s H → BindsTo s fd args (ps.zip us) → Vals vs us → sp vs H Q E →
    codeAny (model P w) A (.call (.ref f) args) (fun r s' => match r with | .ok (.ret u) => ZMade P w k outer H s Q E u s' | _ => False) s
theorem zfn_of {P : Program} {w : World} {K : PySem.W.Frag} {mg : Str → Option Value} {base : Heap} {k : Nat} {f : Addr} {name qual : Str} {params : Arguments} {body : List Stmt} {scope : Scope} {dV kV doc pm cdv ct oc : Value} {an od : Option Addr}
    {osl : Array (Option Value)} {N ps : List Str} {sp : SpG} (lk : K.lookup f = some ⟨oc, od, .func (PySem.W.fnOf name qual params body scope dV kV doc pm an cdv ct), osl⟩) (hcd : PySem.W.codeIn K cdv qual = true) (sc : GScope N ps scope)
    (len : ∀ vs H Q E, sp vs H Q E → vs.length = ps.length)
    (hbody : ∀ (A : Around) (outer : List Env) (s : Shared) (H : Hp) (vs : List V) (Q : List V → Hp → Prop) (E : XK) (pn : List (Addr × Obj)), Room k (A.deeper (envOfC qual scope s.heap.objs.size f cdv)) → sp vs H Q E →
      ∃ t, GzSs (gcxOf P w K mg base N qual scope f cdv A outer s H E pn) body t ∧ t { nx := fun ys _ H' => Q ys H', rt := fun ys v H' => v = .non ∧ Q ys H' } [] (start N vs) H) :
    ZFn P w K mg base (k + 1) f (PySem.W.fnOf name qual params body scope dV kV doc pm an cdv ct) ps sp := ⟨len, fun A outer s H args us vs Q E hr e0 hb r hsp => by
  have hl := len _ _ _ _ hsp
  have kin : K.In s.heap := e0.mod.kin.keeps fun b o e => (e0.bs b o e).1
  have lim : s.heap.NoLimit := e0.mod.nolimit.keeps fun b o e => (e0.bs b o e).1
  refine codeAny_call_generator hr.depth (kin _ _ lk) rfl sc.co sc.gen rfl (PySem.W.codeRec_of kin hcd) (hb _ _ _ _ ?_)
  refine wpAny_newFunctionEnv_cells sc.kind (fun y hy => ?_) fun env he s1 x => ?_
  · obtain ⟨n, v⟩ := y
    exact (sc.par n (List.of_mem_zip hy).1).elim .inl fun q => .inr ⟨q, PySem.W.cellsFrom_some _ _ _ (.inl q)⟩
  subst he
  have lim1 : s1.heap.NoLimit := lim.keeps x.toInCall.keep
  refine ⟨lim1, ?_⟩
  have hgen1 : s1.os = s.os ∧ s1.gens = s.gens := by obtain ⟨h1, tk, es1, _⟩ := x.done; rw [es1]; exact ⟨rfl, rfl⟩
  obtain ⟨os1, gen1⟩ := hgen1
  have lt1 : s.heap.objs.size < s1.heap.objs.size := x.toInCall.ns.lt
  have kp1 : ∀ b o, s.heap.get? b = some o → s1.heap.get? b = some o := x.toInCall.keep
  have main : ∀ (go : Obj) (nm qn : Value) (tk2 : Nat), go.cls = .type "generator" → go.data = .fields #[.int s1.gens.size 0, nm, qn] → go.slots = #[] → (∀ h : Heap, (h.push go).get? h.objs.size = some go) →
      ZMade P w (k + 1) outer H s Q E (.ref s1.heap.objs.size) { s1 with gens := s1.gens.push (.fresh (.func body (envOfC qual scope s.heap.objs.size f cdv))), toks := tk2, heap := s1.heap.push go } := by
    intro go nm qn tk2 hc hd hsl hat
    have isg : ∀ h : Heap, h.get? s1.heap.objs.size = some go → h.IsGen s1.heap.objs.size s1.gens.size := fun h e => ⟨go, nm, qn, e, hc, hd, hsl⟩
    refine ⟨s1.heap.objs.size, s1.gens.size, _, rfl, ⟨Nat.le_of_lt lt1, ?_⟩, isg _ (hat _), Array.getElem?_push_size .., ⟨os1, AllBare.push (by rw [gen1]; exact e0.bare) rfl, lim1.keeps fun b o e => Heap.get?_push_of_some _ e⟩, fun b o e => Heap.get?_push_of_some _ (kp1 b o e), ?_⟩
    · show _ < (s1.heap.push _).objs.size
      rw [Heap.size_push]; exact Nat.lt_succ_self _
    intro B S L s2 hrB hfr hS hL hk2 hS2 hL2 hos hba
    have e1 : Env0 P w K mg base B outer s H := ⟨hfr, e0.mod, e0.bs, e0.bsz, e0.funs, e0.frf, e0.hok, e0.bare⟩
    obtain ⟨t, ht, hq⟩ := hbody B outer s H vs Q E [(s1.heap.objs.size, go)] (hrB.deeper _) hsp
    have I1 : Inv (gcxOf P w K mg base N qual scope f cdv B outer s H E []) [] (start N vs) H s1 := inv_startG sc hrB.hd e1 hl r x
    have kp2 : ∀ b o, s1.heap.get? b = some o → s2.heap.get? b = some o := fun b o e => hk2 b o (Heap.get?_push_of_some _ e)
    have I2 : Inv (gcxOf P w K mg base N qual scope f cdv B outer s H E []) [] (start N vs) H s2 := I1.call' (ch := []) (hos.trans os1.symm) (Un.kept kp2) (I1.hok.kept kp2) hba fun b z => by simp at z
    have big : ∀ a, (s1.heap.push go).objs.size ≤ a → s1.heap.objs.size < a := fun a h => by rw [Heap.size_push] at h; exact h
    have hS := big S hS
    have hL := big L hL
    have young : ∀ b, s1.heap.objs.size ≤ b → H b = none ∧ b ≠ s.heap.objs.size ∧ b ∉ frs outer ∧ s.heap.objs.size ≤ b ∧ ∀ y c, (cellsFrom (s.heap.objs.size + 1) scope.names []).lookup y = some c → c ≠ b := fun b h => by
      refine ⟨I1.hok.fresh h, Nat.ne_of_gt (Nat.lt_of_lt_of_le lt1 h), I1.nofs h, Nat.le_trans (Nat.le_of_lt lt1) h, fun y c e z => ?_⟩
      obtain ⟨v, ob, ho, _⟩ := I1.cell y c e
      have := Heap.lt_size ho
      rw [z] at this
      exact absurd (Nat.lt_of_lt_of_le this h) (Nat.lt_irrefl _)
    have gat : s2.heap.get? s1.heap.objs.size = some go := hk2 _ _ (hat _)
    have gnc : ∀ v, go.data ≠ .cell v := fun v q => by rw [hd] at q; cases q
    obtain ⟨cS, eS⟩ := hS2
    obtain ⟨oL, eL, nL⟩ := hL2
    have run0 : GzI (gcxOf P w K mg base N qual scope f cdv B outer s H E [(s1.heap.objs.size, go)]) S L [] [] (start N vs) H s2 := by
      refine ⟨#[], cS, oL, ⟨.nil, nL⟩, Inv.pinnedG I2 fun p hp => ?_⟩
      rcases List.mem_append.mp hp with z | z
      · rw [List.mem_singleton.mp z]
        obtain ⟨y1, y2, y3, _⟩ := young s1.heap.objs.size (Nat.le_refl _)
        exact ⟨gat, y1, y2, y3, gnc⟩
      · rcases List.mem_cons.mp z with z | z
        · rw [z]
          obtain ⟨y1, y2, y3, _⟩ := young S (Nat.le_of_lt hS)
          exact ⟨eS, y1, y2, y3, fun v q => by cases q⟩
        · rw [List.mem_singleton.mp z]
          obtain ⟨y1, y2, y3, _⟩ := young L (Nat.le_of_lt hL)
          exact ⟨eL, y1, y2, y3, nL.noc⟩
    have far : ∀ b, s1.heap.objs.size < b → Apart (gcxOf P w K mg base N qual scope f cdv B outer s H E [(s1.heap.objs.size, go)]) b := fun b h => by
      obtain ⟨_, y2, _, y4, y5⟩ := young b (Nat.le_of_lt h)
      exact ⟨y4, y2, y5⟩
    have gpin : ∀ {ip : List (Addr × Obj)} {ys : List V} {s' : Shared} {σ' : L2.St} {H' : Hp}, GzI (gcxOf P w K mg base N qual scope f cdv B outer s H E [(s1.heap.objs.size, go)]) S L ip ys σ' H' s' → s'.heap.IsGen s1.heap.objs.size s1.gens.size := fun {ip ys s' σ' H'} ⟨_, _, _, _, J⟩ =>
      isg _ (J.pin (s1.heap.objs.size, go) (List.mem_append_left _ (List.mem_singleton.mpr rfl))).1
    refine seg_func (seg_imp (R := GzR (gcxOf P w K mg base N qual scope f cdv B outer s H E [(s1.heap.objs.size, go)]) S L (fun ys v H' => v = .non ∧ Q ys H') fun e s' => CX P w outer H s E e s' ∧ ∀ p ∈ [(s1.heap.objs.size, go)], s'.heap.get? p.1 = some p.2)
      (Y := GzY (gcxOf P w K mg base N qual scope f cdv B outer s H E [(s1.heap.objs.size, go)]) S L) (fun n s₀ r s1' hR => ?_) (fun n s₀ v s1' kap kap' hkk hY => ?_) sizeLine ?_)
    · cases r with
      | error e => exact .inr ⟨e, rfl, hR.1, isg _ (hR.2 (s1.heap.objs.size, go) (List.mem_singleton.mpr rfl))⟩
      | ok fl =>
        cases fl with
        | ret u =>
          obtain ⟨ys, v, ip, σ', H', hn, hI, rv, ev, hQ⟩ := hR
          subst ev
          obtain rfl : u = Value.none := rv
          obtain ⟨a1, _, _, acc, cc, ra, ea⟩ := hI.atS
          obtain ⟨b1, _, _, b4⟩ := hI.atL
          obtain ⟨_, _, _, _, J⟩ := hI
          exact .inl ⟨.inl rfl, H', ys, acc, cc, ⟨J.os, J.bare⟩, J.base, J.hok, ⟨a1, b1⟩, b4, ea, ra, by omega, hQ⟩
        | _ => exact False.elim hR
    · obtain ⟨ys, xx, ip, σ', H', hn, h2, hI, h3⟩ := hY
      obtain ⟨_, _, _, acc, cc, ra, ea⟩ := hI.atS
      obtain ⟨_, _, _, b4⟩ := hI.atL
      have hg := gpin hI
      obtain ⟨_, _, _, _, J⟩ := hI
      have sz : acc.size = ys.length := by rw [ra.length]; simp
      exact ⟨J.os, J.bare, J.nolimit, hg, ⟨acc, cc, ea, by omega⟩, b4, fun s' z => hkk _ _ (h3 s' z)⟩
    · refine ht.run B S L [] _ sizeLine [] s2 _ [] _ _ id id s2 (start N vs) H _ ⟨fun p hp => ?_, fun p hp => (by simp at hp), far S hS, far L hL, over_func, rfl, rfl, rfl⟩ (Nat.add_zero _) ⟨fun n ys s₀ s' fl hn hs => ?_, fun n s₀ e s' hx => ?_⟩ run0 hq
      · rw [List.mem_singleton.mp hp]
        exact ⟨Nat.ne_of_lt hS, Nat.ne_of_lt hL⟩
      · cases fl with
        | next =>
          obtain ⟨σ', H', hI, hQ⟩ := hs
          exact seg_end (.ok (.ret .none)) ⟨ys, .non, [], σ', H', hn, hI, rfl, rfl, hQ⟩
        | ret u =>
          obtain ⟨v, σ', H', hI, rv, ev, hQ⟩ := hs
          exact seg_end (.ok (.ret u)) ⟨ys, v, [], σ', H', hn, hI, rv, ev, hQ⟩
        | _ => obtain ⟨_, _, _, q⟩ := hs; exact False.elim q
      · refine seg_wrap ?_
        rw [over_func]
        exact wpAny_mono (show wpAny (model P w) (B.deeper (envOfC qual scope s.heap.objs.size f cdv)) (leaving (envOfC qual scope s.heap.objs.size f cdv) e) (fun _ s'' => CX P w outer H s E e s'' ∧ ∀ p ∈ [(s1.heap.objs.size, go)], s''.heap.get? p.1 = some p.2) (fun _ _ => False) s' from hx) (fun _ s'' q => seg_end (.error e) q) fun _ s'' q => q.elim
  exact main _ _ _ _ rfl rfl rfl fun h => Heap.get?_push_size _ rfl⟩
end L2

/-! [x for x in g(..)] -/
namespace L2
open PySem PySem.Spec PyProof.Rows GenW
theorem nap_push {S L : Addr} {v : Value} {s : Shared} {acc : Array Value} {c : Nat} {G : Array GenState} (hS : s.heap.get? S = some (lstObj acc c)) (hSL : S ≠ L) (hG : AllBare G) : GzNap S L v s { s with gens := G, heap := s.heap.update S (Obj.mapSeq (·.push v)) } where
  os := rfl
  bare := hG
  keep := fun b o hb _ e => (Heap.get?_update_other _ _ (Ne.symm hb)).trans e
  own := fun acc' c' e => by
    rw [hS] at e
    cases e
    exact ⟨_, Heap.get?_update_self _ hS rfl⟩
  loc := fun o e n => ⟨o, (Heap.get?_update_other _ _ hSL).trans e, n⟩
theorem isNs_ns {h : Heap} {L : Addr} (k : ∃ o, h.get? L = some o ∧ GzNs o) : ∃ m, h.Ns L m := by
  obtain ⟨o, e, m, es, ep, r⟩ := k
  exact ⟨m, o, es, ep, e, r⟩
theorem ns_isNs {h : Heap} {L : Addr} {m : Str → Option Value} (k : h.Ns L m) : ∃ o, h.get? L = some o ∧ GzNs o := by
  obtain ⟨o, es, ep, e, r⟩ := k
  exact ⟨o, e, m, es, ep, r⟩
theorem drainC {P : Program} {w : World} {outer : List Env} {H : Hp} {sc : Shared} {Q : List V → Hp → Prop} {A : Around} {S L a : Addr} {g : Nat} {x : Str} {px py pos : Pos} {iter : Expr} {scope : Scope} {ce : Env} {R : Result → Shared → Prop}
    (hh : A.handled = none) (hd : A.depth < recursionLimit) (hSa : S ≠ a) (hLa : L ≠ a) (hSc : S ≠ cStatics) (hLc : L ≠ cStatics) (hSL : S ≠ L)
    (cl : ce.locals = L) (ck : ce.scope.kind = .function) (cx : ce.kindOf x = some .local) (hx : (x == ("__debug__" : Str)) = false)
    (hend : ∀ s' acc c H' ys, s'.heap.get? S = some (lstObj acc c) → Vals ys acc.toList → ys.length ≤ sizeLine → s'.os = sc.os → AllBare s'.gens → Un (frs outer) [] H H' sc.heap s'.heap → HOk P w H' s'.heap → H' S = none → H' L = none → (∃ m, s'.heap.Ns L m) → Q ys H' → R (.ok .next) s') :
    ∀ (m : Nat) (s : Shared), s.heap.IsGen a g → s.heap.NoLimit →
      (∃ gs, s.gens[g]? = some gs ∧ gs.Goes (model P w) A.in1 (ZEnd P w outer H sc S L a g Q fun _ _ _ => False) (ZItem sc S L a g) m (.send .none) (s.setGen g .running)) →
      codeAny (model P w) A (.compLoop (.ListComp (.Name x py) [⟨.Name x px, iter, [], 0⟩] scope pos) 0 (.ref a) (.ref S) ce) R s := by
  have goes : ∀ {gs : GenState} {B : Around} {n : Nat} {r : Resume} {s : Shared}, gs.Goes (model P w) B (ZEnd P w outer H sc S L a g Q fun _ _ _ => False) (ZItem sc S L a g) n r s →
      gs.Goes (model P w) B (fun n s₀ r s1 => ((r = .ok (.ret .none) ∨ r = .ok .next) ∧ (∃ H' ys acc c, (s1.os = sc.os ∧ AllBare s1.gens) ∧ Un (frs outer) [] H H' sc.heap s1.heap ∧ HOk P w H' s1.heap ∧ (H' S = none ∧ H' L = none) ∧ (∃ o, s1.heap.get? L = some o ∧ GzNs o) ∧ s1.heap.get? S = some (lstObj acc c) ∧ Vals ys acc.toList ∧ ys.length ≤ sizeLine ∧ Q ys H')) ∨
        ∃ e, r = .error e ∧ (CX P w outer H sc (fun _ _ _ => False) e s1 ∧ s1.heap.IsGen a g)) (ZItem sc S L a g) n r s := fun h => h
  intro m s hg hl hgo
  refine codeAny_compLoop_list (fun n s => s.heap.IsGen a g ∧ s.heap.NoLimit ∧ ∃ gs, s.gens[g]? = some gs ∧ gs.Goes (model P w) A.in1 (ZEnd P w outer H sc S L a g Q fun _ _ _ => False) (ZItem sc S L a g) n (.send .none) (s.setGen g .running)) ?_ m ⟨hg, hl, hgo⟩
  rintro n s ⟨hg, hl, gs, hgs, hgo⟩
  have hgl : g < s.gens.size := (Array.getElem?_eq_some_iff.mp hgs).1
  refine wpAny_gsz (n := g + 1) hgl (next_genG (A := A) hh hl hd hg hgs (goes hgo) (fun v s₁ gs' hbare hv => ?_) (fun s₁ hp h' hk => ?_) fun e s₁ he => ?_)
  · intro hsz
    obtain ⟨os1, hb1, hl1, hg1, ⟨acc, c, hS1, hasz⟩, hL1, hk⟩ := hv
    cases n with
    | zero => exact False.elim (hk _ (nap_push hS1 hSL hb1))
    | succ n =>
      have hsz1 : g < s₁.gens.size := by
        have q : (s₁.setGen g gs').gens.size = s₁.gens.size := setGen_size _ _ _
        have hsz' : g + 1 ≤ (s₁.setGen g gs').gens.size := hsz
        omega
      obtain ⟨m0, hns⟩ := isNs_ns hL1
      have hns : (s₁.setGen g gs').heap.Ns ce.locals m0 := by rw [cl]; exact hns
      refine wpAny_assign_Name (wpAny_storeName_local cx hns (fun h' hn' hsb => ?_) (by rw [ck]; rfl))
      refine wpAny_Name (wpAny_loadName_local (m := fun y => if y = x then some v else m0 y) ck cx hn' (if_pos rfl) ?_) hx
      rw [cl] at hn' hsb
      have eS : h'.get? S = some (lstObj acc c) := (hsb.2 S hSL).trans hS1
      refine append_at eS (fun h'' sb'' ho'' => ?_) (by have h : n + 1 - 1 + 1 + acc.size = sizeLine := hasz; omega)
      have kp : ∀ b o, b ≠ S → b ≠ L → s₁.heap.get? b = some o → h''.get? b = some o := fun b o h1 h2 e => (sb''.2 b h1).trans ((hsb.2 b h2).trans e)
      have eL : ∃ o, h''.get? L = some o ∧ GzNs o := by
        obtain ⟨o, e, i⟩ := ns_isNs hn'
        exact ⟨o, (sb''.2 L (Ne.symm hSL)).trans e, i⟩
      refine ⟨n, Nat.lt_succ_self n, ?_, ?_, gs', setGen_at hsz1, ?_⟩
      · obtain ⟨o, nm, qn, ho, r⟩ := hg1
        exact ⟨o, nm, qn, kp a o (Ne.symm hSa) (Ne.symm hLa) ho, r⟩
      · obtain ⟨mc, h1, h2⟩ := hl1
        exact ⟨mc, h1.at' fun o e => kp _ o (Ne.symm hSc) (Ne.symm hLc) e, h2⟩
      · refine hk _ ⟨rfl, allBare_setGen (s := s₁.setGen g gs') (allBare_setGen hb1 hbare) rfl, kp, fun acc' c' e => ?_, fun o _ _ => eL⟩
        rw [hS1] at e
        cases e
        exact ⟨_, ho''⟩
  · intro hsz
    obtain ⟨H', ys, acc, c, ⟨os1, hb1⟩, un, hok, ⟨h1, h2⟩, ⟨o, eo, io⟩, hS1, hv, hle, hQ⟩ := hp
    exact hend _ acc c H' ys (hk _ _ hS1) hv hle os1 (allBare_setGen hb1 rfl) (un.trans (Un.kept hk)) (hok.kept hk) h1 h2 (isNs_ns ⟨o, hk _ _ eo, io⟩) hQ
  · obtain ⟨⟨_, _, _, _, _, _, _, _, _, _, _, _, z⟩, _⟩ := he
    exact z.elim
section
variable {X : Cx} {k : Nat} {f : Addr} {fd : FuncData} {ps : List Str} {sp : SpG} {x y : Str} {p px py pos pos' : Pos} {t : TA}
structure ZGen (X : Cx) (k : Nat) (e : Expr) (tg : TGen) : Prop where
  run : ∀ (pins : List (Addr × Obj)) (s : Shared) (σ : L2.St) (H : Hp) (cont : List V → Hp → Prop), Inv X pins σ H s → tg σ H cont → wpAny (model X.prog X.w) X.A (eval e X.env)
    (fun u s' => ∃ H1 sc, Inv X pins σ H1 sc ∧ ZMade X.prog X.w k X.stack H1 sc cont (fun _ _ _ => False) u s') X.xe s
def tCallZ (sp : SpG) (t : TA) : TGen := fun σ H cont => t σ H fun vs H1 => sp vs H1 cont fun _ _ _ => False
theorem zgen_call {e : Expr} {es : List Expr} (F : ZFn X.prog X.w X.K X.mg X.base k f fd ps sp) (hr : Room k X.A) (hg : Gl X x) (hm : X.mg x = some (.ref f)) (hk : PySem.W.keepIn X.K (.ref f) = true) (hb : Binds X.K fd ps []) (ha : PA X (e :: es) t)
    (hdb : (x == ("__debug__" : Str)) = false := by decide) (he : starEach (e :: es) X.env = (false, eval e X.env) :: starEach es X.env := by rfl) (hpl : (backTo pos' (starEach es X.env)).any (·.1) = false := by rfl) :
    ZGen X k (.Call (.Name x p) (e :: es) [] pos') (tCallZ sp t) := by
  refine ⟨fun pins s σ H cont I h => wpAny_Call_Name_kw (ld_glob I hg hm ?_ hdb)⟩
  refine PySem.W.callWith_K (h₀ := X.base) I.ok.mod.kin hk (thn (ha.run pos' pins s σ H _ I h) fun us s1 ⟨vs, H1, I1, r, q⟩ => ⟨I1.kIn, ?_⟩) he hpl
  have hl : (us ++ []).length = ps.length := by rw [List.append_nil, ← r.length]; exact F.len _ _ _ _ q
  have hb2 := hb s1 us I1.kIn hl
  rw [List.append_nil] at hb2
  refine wpAny_call (codeAny_mono (F.run X.A X.stack s1 H1 ⟨us, []⟩ us vs cont _ hr I1.env0 hb2 r q) fun r s' hq => ?_)
  cases r with
  | error e => exact False.elim hq
  | ok fl =>
    cases fl with
    | ret u => exact ⟨H1, s1, I1, hq⟩
    | _ => exact False.elim hq
def tListZ (tg : TGen) : TE := fun σ H Q => tg σ H fun out H2 => ∀ D, H2 D = none → Q (.ref D) (upd H2 D (.lst out))
theorem lcG_core {pins : List (Addr × Obj)} {s : Shared} {σ : L2.St} {H : Hp} {Q : VK} {use : Option (Value → Sem Unit)} {Qf : Value → Shared → Prop} {e : Expr} {tg : TGen} {scope : Scope} (I : Inv X pins σ H s) (h : ZGen X k e tg) (hr : Room (k + 1) X.A) (sk : scope.kind = .function) (su : ∀ z ∈ scope.names, scope.names.lookup z.1 = some z.2) (sf : ∀ z ∈ scope.names, z.2 = .local) (sx : scope.names.lookup x = some .local) (hx : (x == ("__debug__" : Str)) = false)
    (hs : ∀ x, foldedSetIterable e X.env x = pure x) (hq : tListZ tg σ H Q) (hRR : ∀ D C s' m H', Inv X pins σ H' s' → Q (.ref D) H' → s'.heap.Ns C m → FpOk X pins H' C → compPost (model X.prog X.w) X.A X.xe use Qf (.ref D) C (.ok .next) s') :
    wpAny (model X.prog X.w) X.A (comprehension (.ListComp (.Name x py) [⟨.Name x px, e, [], 0⟩] scope pos) scope X.env pos' (newList []) false (eval e X.env) use) Qf X.xe s := by
  refine wpAny_comprehension_free (use := use) rfl hs (closure_ok fun z hz e => by rw [sf z hz] at e; cases e) sk (fun z hz e => by rw [su z hz, e]) (thn (h.run pins s σ H _ I hq) fun u s1 ⟨H1, sc, I1, hG⟩ => ?_)
  obtain ⟨a, g, c, rfl, ⟨ha1, ha2⟩, hg, hgs, ⟨hos, hb, hl⟩, hkp, wake⟩ := hG
  refine wpAny_pyIter_gen hg (wpAny_newObj_type (newEnv_comp ?_) (by show 0 ≤ sizeLine; decide))
  show codeAny _ _ (.compStart (.ListComp (.Name x py) [⟨.Name x px, e, [], 0⟩] scope pos) 0 (.ref a) (.ref s1.heap.objs.size) (compEnvC scope (cellsFrom ((s1.heap.push { cls := .type "list", data := .seq ([] : List Value).toArray }).objs.size + 1) scope.names (cloFrom X.env.cells scope.names [])) (s1.heap.push { cls := .type "list", data := .seq ([] : List Value).toArray }).objs.size X.env))
    (compPost (model X.prog X.w) X.A X.xe use _ (.ref s1.heap.objs.size) (s1.heap.push { cls := .type "list", data := .seq ([] : List Value).toArray }).objs.size) { s1 with heap := pushCells ((s1.heap.push { cls := .type "list", data := .seq ([] : List Value).toArray }).push { cls := .type "dict", data := .dict #[] }) scope.names }
  generalize hce : compEnvC scope (cellsFrom ((s1.heap.push { cls := .type "list", data := .seq ([] : List Value).toArray }).objs.size + 1) scope.names (cloFrom X.env.cells scope.names [])) (s1.heap.push { cls := .type "list", data := .seq ([] : List Value).toArray }).objs.size X.env = ce
  have cL : ce.locals = s1.heap.objs.size + 1 := by subst hce; exact Heap.size_push ..
  have ck : ce.scope.kind = .function := by subst hce; exact sk
  have cx : ce.kindOf x = some .local := by subst hce; exact lookup_relabel_local sx
  generalize hs4 : ({ s1 with heap := pushCells ((s1.heap.push { cls := .type "list", data := .seq ([] : List Value).toArray }).push { cls := .type "dict", data := .dict #[] }) scope.names } : Shared) = s4
  have k4 : ∀ b o, s1.heap.get? b = some o → s4.heap.get? b = some o := fun b o e => by
    rw [← hs4]; exact pushCells_keeps _ _ _ _ (Heap.get?_push_of_some _ (Heap.get?_push_of_some _ e))
  have e4 : s4.heap.get? s1.heap.objs.size = some (lstObj #[] 0) := by
    rw [← hs4]; exact pushCells_keeps _ _ _ _ (Heap.get?_push_of_some _ (Heap.get?_push_size _ rfl))
  have n4 : ∃ o, s4.heap.get? (s1.heap.objs.size + 1) = some o ∧ GzNs o := by
    refine ⟨{ cls := .type "dict", data := .dict #[] }, ?_, fun _ => none, #[], _, rfl, fun e he => (by simp at he), fun _ => rfl⟩
    rw [← hs4, ← Heap.size_push s1.heap { cls := .type "list", data := .seq ([] : List Value).toArray }]
    exact pushCells_keeps _ _ _ _ (Heap.get?_push_size _ rfl)
  have g4 : s4.gens = s1.gens := by rw [← hs4]
  have o4 : s4.os = s1.os := by rw [← hs4]
  rw [Heap.size_push]
  have hsz : sc.heap.objs.size ≤ s1.heap.objs.size := Nat.le_trans ha1 (Nat.le_of_lt ha2)
  have hcst : cStatics < s1.heap.objs.size := let ⟨_, hn, _⟩ := hl; hn.lt
  refine (fun loop => codeAny_compStart_list loop (wpAny_pyIter_gen (hg.keeps k4) loop)) ?_
  · have hgs4 : s4.gens[g]? = some (.fresh c) := by rw [g4]; exact hgs
    refine drainC (P := X.prog) (w := X.w) (outer := X.stack) (H := H1) (sc := sc) (Q := fun out H2 => ∀ D, H2 D = none → Q (.ref D) (upd H2 D (.lst out))) (A := X.A) (S := s1.heap.objs.size) (L := s1.heap.objs.size + 1) (a := a) (g := g) hr.hd (by have := hr.dp; omega) (Nat.ne_of_gt ha2) (Nat.ne_of_gt (Nat.lt_succ_of_lt ha2)) (Nat.ne_of_gt hcst) (Nat.ne_of_gt (Nat.lt_succ_of_lt hcst)) (Nat.ne_of_lt (Nat.lt_succ_self _)) cL ck cx hx
      (fun s' acc c H' ys q1 q2 q3 q4 q5 q6 q7 q8 q9 ⟨m, qn⟩ qq => ?_) sizeLine s4 (hg.keeps k4) (hl.keeps k4) ⟨_, hgs4, rfl, ?_⟩
    rotate_left
    · have I2 := I1.drained (S := s1.heap.objs.size) hsz q3 q1 q2 ExOk.nil q4 q5 q6 q7 q8
      have nL : (upd H' s1.heap.objs.size (.lst ys)) (s1.heap.objs.size + 1) = none := by rw [upd_ne (Nat.ne_of_gt (Nat.lt_succ_self _))]; exact q9
      exact hRR _ _ _ m _ I2 (qq s1.heap.objs.size q8) qn (I1.fpOk (Nat.le_succ_of_le hsz) nL)
    · refine wake X.A.in1 _ _ _ ⟨hr.hd, ?_, ?_⟩ I1.ok.frames (Nat.le_refl _) (Nat.le_succ _) k4 ⟨_, e4⟩ n4 (o4.trans hos) (allBare_setGen (s := s4) (by rw [g4]; exact hb) rfl)
      · have := hr.dp
        show X.A.depth + 3 * k + 5 < _
        omega
      · have := hr.un
        show X.A.units + 1 + 16 * k + 200 < _
        omega
/-- as a value -/
theorem pe_lcG {e : Expr} {tg : TGen} {scope : Scope} (h : ZGen X k e tg) (hr : Room (k + 1) X.A) (sk : scope.kind = .function) (su : ∀ z ∈ scope.names, scope.names.lookup z.1 = some z.2) (sf : ∀ z ∈ scope.names, z.2 = .local) (sx : scope.names.lookup x = some .local) (hx : (x == ("__debug__" : Str)) = false)
    (hs : ∀ x, foldedSetIterable e X.env x = pure x := by intro _; rfl) : PE X (.ListComp (.Name x py) [⟨.Name x px, e, [], 0⟩] scope pos) (tListZ tg) := ⟨fun pins s σ H Q I hq => by
  rw [eval_ListComp]
  refine lcG_core (Q := Q) I h hr sk su sf sx hx hs hq fun D C s' m H' I' q hn f => ⟨m, hn, fun h'' sb => ?_⟩
  obtain ⟨f0, f1, f2, f3, f4, f5⟩ := f
  exact ⟨.ref D, H', I'.turned (t' := s'.toks) (fun b o hb e => (sb.2 b hb).trans e) f0 f1 f3 f4 f5, rfl, q⟩⟩
/-- name = [..] on one line, the name a local -/
theorem ps_setLcG {i : Nat} {z : Str} {pz spos : Pos} {e : Expr} {tg : TGen} {scope : Scope} (hN : X.N.Nodup) (hy : X.N[i]? = some z) (hyl : X.env.scope.names.lookup z = some .local) (hsw : swapsWith (.ListComp (.Name x py) [⟨.Name x px, e, [], 0⟩] scope pos) (some (.Name z pz)) spos.line X.env = pure true)
    (h : ZGen X k e tg) (hr : Room (k + 1) X.A) (sk : scope.kind = .function) (su : ∀ z ∈ scope.names, scope.names.lookup z.1 = some z.2) (sf : ∀ z ∈ scope.names, z.2 = .local) (sx : scope.names.lookup x = some .local) (hx : (x == ("__debug__" : Str)) = false)
    (hs : ∀ x, foldedSetIterable e X.env x = pure x := by intro _; rfl) : PS X (.Assign [.Name z pz] (.ListComp (.Name x py) [⟨.Name x px, e, [], 0⟩] scope pos) spos) (tAsg (tListZ tg) (gName i)) := ⟨fun pins s σ H D I hd => by
  rw [exec_Assign_Name_used _ _ _ _ hsw]
  refine wpAny_bind (wpAny_standAt (wpAny_bind ?_))
  show wpAny _ X.A (do let _ ← comprehension (.ListComp (.Name x py) [⟨.Name x px, e, [], 0⟩] scope pos) scope X.env (firstIterPos [⟨.Name x px, e, [], 0⟩] pos) (newList []) false (eval e X.env) (some (assign (.Name z pz) X.env))) _ _ s
  have hd : tListZ tg σ H (fun x H1 => gName i x σ H1 D.nx) := hd
  refine wpAny_bind (thn (lcG_core (Qf := fun _ s' => SP X pins D .next s') I h hr sk su sf sx hx hs hd fun C L s' m H' I' q hn f => ?_) fun _ s' hq => wpAny_pure (wpAny_pure hq))
  show wpAny _ _ (assign (.Name z pz) X.env (.ref C)) _ _ _
  refine wpAny_assign_Name (store_ok2 (v := V.ref C) I' hN hy (.inl hyl) rfl (fun s2 I2 ⟨a, sb, ha⟩ => ?_) (.inr hyl))
  obtain ⟨f0, f1, f2, f3, f4, f5⟩ := f
  have ne : L ≠ a := ha.elim (fun z => by rw [z]; exact f1) fun z e => f4 _ a z e.symm
  exact ⟨m, hn.sameBut sb ne, fun h3 sb3 => ⟨_, H', I2.turned (t' := s2.toks) (fun b o hb e => (sb3.2 b hb).trans e) f0 f1 f3 f4 f5, q⟩⟩⟩
end
end L2

/-! tuples that the program makes, known to the object -/
namespace L3
open PySem PySem.Spec PyProof.Rows L2
def TObj (o : Obj) : Prop := o.cls = .type "tuple" ∧ o.dict = none
abbrev tOb (its : List Value) : Obj := { cls := .type "tuple", data := .seq its.toArray }
theorem tOb_ok (its : List Value) : TObj (tOb its) := ⟨rfl, rfl⟩
section
variable {X : Cx} {pins : List (Addr × Obj)} {σ : L2.St} {H : Hp} {s : Shared}
theorem tupNew {xs : List V} {its : List Value} (I : Inv X pins σ H s) (rv : Vals xs its) (hz : xs.length ≤ sizeLine) :
    Inv X pins σ (upd H s.heap.objs.size (.frz (tOb its) (.tup xs))) { s with heap := s.heap.push (tOb its) } :=
  I.laid (t' := s.toks) (o := .frz (tOb its) (.tup xs)) (fun _ _ e => Heap.get?_push_of_some _ e) (Nat.le_refl _) ⟨Heap.get?_push_size _ rfl, hz, its, rv, IsTup.new _ _⟩
end
section
variable {X : Cx} {pos : Pos} {es : List Expr} {t : TA}
def tTupX (t : TA) : TE := fun σ H Q => t σ H fun xs H1 => xs.length ≤ sizeLine ∧ ∀ p o, H1 p = none → TObj o → Q (.ref p) (upd H1 p (.frz o (.tup xs)))
theorem pe_tupX {k : Nat} (h : PA X es t) : PE X (.Tuple es k pos) (tTupX t) := by
  refine ⟨fun pins s σ H Q I w => ?_⟩
  refine wpAny_Tuple_spliced (thn (h.run pos pins s σ H _ I w) fun vs s1 ⟨xs, H1, I1, rv, z, q⟩ => ⟨by rw [← rv.length]; exact z, ?_⟩)
  exact ⟨.ref s1.heap.objs.size, _, tupNew I1 rv z, rfl, q _ _ (I1.hok.fresh (Nat.le_refl _)) (tOb_ok vs)⟩
theorem call_tupX : CallR X (.type "tuple") (fun xs H Q => ∃ p ys, xs = [.ref p] ∧ ((SqL X.K H p ys ∧ ∀ l o, H l = none → TObj o → Q (.ref l) (upd H l (.frz o (.tup ys)))) ∨ (SqT X.K H p ys ∧ Q (.ref p) H))) := by
  intro pins s σ H xs us Q I r w
  obtain ⟨p, ys, rfl, w⟩ := w
  obtain ⟨u, rfl, rx⟩ := vals1 r
  cases rx
  rcases w with ⟨hq, q⟩ | ⟨hq, q⟩
  · obtain ⟨its, rv, pl, hz⟩ := I.list hq
    have ll := rv.length
    refine call_tuple_list pl.isList (fun h' kp => ?_) (by simp only [List.size_toArray] <;> omega)
    have J : Inv X pins σ H { s with heap := h' } := I.kept (t' := s.toks) kp
    exact ⟨.ref h'.objs.size, _, tupNew J rv hz, rfl, q _ _ (J.hok.fresh (Nat.le_refl _)) (tOb_ok its)⟩
  · obtain ⟨its, rv, pl, _⟩ := I.tuple hq
    exact call_tuple_same pl ⟨.ref p, H, I, rfl, q⟩
def rCatX (K : PySem.W.Frag) : R2 := fun x y H Q => ∃ a b xs ys, x = .ref a ∧ y = .ref b ∧ SqT K H a xs ∧ SqT K H b ys ∧ xs.length + ys.length ≤ sizeLine ∧
  (xs = [] → Q (.ref b) H) ∧ (xs ≠ [] → ys = [] → Q (.ref a) H) ∧ (xs ≠ [] → ys ≠ [] → ∀ p o, H p = none → TObj o → Q (.ref p) (upd H p (.frz o (.tup (xs ++ ys)))))
theorem op_catX : OpR X (binaryOp .Add) (rCatX X.K) := by
  intro pins s σ H x y v u Q I rx ry w
  obtain ⟨a, b, xs, ys, rfl, rfl, ha, hb, hz, q0, q1, q2⟩ := w
  cases rx
  cases ry
  obtain ⟨its, r1, p1, _⟩ := I.tuple ha
  obtain ⟨its2, r2, p2, _⟩ := I.tuple hb
  by_cases hx : xs = []
  · subst hx
    cases r1
    exact cat_tup0 p1 p2 ⟨.ref b, H, I, rfl, q0 rfl⟩
  · refine HT.cat_tup p1 p2 (fun z => hx (r1.nil_iff.mp z)) (fun z => ⟨.ref a, H, I, rfl, q1 hx (r2.nil_iff.mp z)⟩) (fun z => ?_) (by rw [← r1.length, ← r2.length]; exact hz)
    exact ⟨.ref s.heap.objs.size, _, tupNew I (r1.append r2) (by rw [List.length_append]; exact hz), rfl, q2 hx (fun e => z (r2.nil_iff.mpr e)) _ _ (I.hok.fresh (Nat.le_refl _)) (tOb_ok _)⟩
def rSlX (K : PySem.W.Frag) : V → Option Int → Option Int → Hp → VK → Prop := fun x lo hi H Q => ∃ a xs, x = .ref a ∧ SqT K H a xs ∧
  (HT.sIx xs.length 0 lo = 0 ∧ HT.sIx xs.length xs.length hi = xs.length → Q (.ref a) H) ∧ (¬ (HT.sIx xs.length 0 lo = 0 ∧ HT.sIx xs.length xs.length hi = xs.length) → ∀ p o, H p = none → TObj o → Q (.ref p) (upd H p (.frz o (.tup (cutV xs lo hi)))))
theorem sl_tupX : SlR X (rSlX X.K) := by
  intro pins s σ H x v vl vu lo hi sl Q I rx hs pl pu w
  obtain ⟨a, xs, rfl, hx, q1, q2⟩ := w
  cases rx
  obtain ⟨its, r, ht, hz⟩ := I.tuple hx
  have ll : its.toArray.size = xs.length := by rw [List.size_toArray]; exact r.length.symm
  refine ⟨"tuple", _, PyProof.Rows.slot_tuple_getitem.lookup, ht.typeIs, ?_⟩
  by_cases hw : HT.sIx xs.length 0 lo = 0 ∧ HT.sIx xs.length xs.length hi = xs.length
  · exact getItem_tuple_whole ht hs pl pu (by rw [ll]; exact hw) ⟨.ref a, H, I, rfl, q1 hw⟩
  · refine HT.getItem_tuple_cut ht hs pl pu (by rw [ll]; exact hw) ?_ (by rw [ll]; exact hz)
    rw [ll]
    exact ⟨.ref s.heap.objs.size, _, tupNew I ((r.drop (HT.sIx xs.length 0 lo)).take (HT.sIx xs.length xs.length hi - HT.sIx xs.length 0 lo)) (Nat.le_trans (cutV_length xs lo hi) hz), rfl, q2 hw _ _ (I.hok.fresh (Nat.le_refl _)) (tOb_ok _)⟩
end
end L3

/-! A layer of my own over the hand layer: values without addresses. A value is a datum (None, truths, numbers, texts, lists and tuples of these) or the address of a list or dict that may change; what is frozen stands in a heap of its own that only grows. -/
namespace L3
open PySem PySem.Spec PyProof.Rows L2

abbrev Fg := PySem.W.Frag
inductive U where
  | d (x : PyData)
  | r (a : Addr)
abbrev Rho := List (Option U)
inductive MO where
  | lst (us : List U)
  | dct (kvs : List (Key × U))
  | hand
  | tab (q : Str)
  | lck (o : Obj) (kws : List (Key × V)) (kvs : List (Key × U))
abbrev Mu := Addr → Option MO
def put (m : Mu) (a : Addr) (o : MO) : Mu := fun b => if b = a then some o else m b
def del (m : Mu) (a : Addr) : Mu := fun b => if b = a then none else m b
theorem put_same {m : Mu} {a : Addr} {o : MO} : put m a o a = some o := if_pos rfl
theorem put_ne {m : Mu} {a b : Addr} {o : MO} (h : b ≠ a) : put m a o b = m b := if_neg h
theorem put_put {m : Mu} {a : Addr} {o p : MO} : put (put m a o) a p = put m a p := by
  funext b
  unfold put
  split <;> rfl
theorem put_id {m : Mu} {a : Addr} {o : MO} (h : m a = some o) : put m a o = m := by
  funext b
  unfold put
  split
  · rename_i e
    rw [e, h]
  · rfl
theorem del_same {m : Mu} {a : Addr} : del m a a = none := if_pos rfl
theorem del_ne {m : Mu} {a b : Addr} (h : b ≠ a) : del m a b = m b := if_neg h
theorem del_put {m : Mu} {a : Addr} {o : MO} (h : m a = none) : del (put m a o) a = m := by
  funext b
  unfold del put
  split
  · rename_i e
    rw [e, h]
  · rfl
theorem del_put2 {m : Mu} {a : Addr} {o : MO} : del (put m a o) a = del m a := by
  funext b
  unfold del put
  split <;> rfl
theorem mne {m : Mu} {a b : Addr} {o : MO} (h : m a = some o) (h' : m b = none) : a ≠ b := fun e => by
  rw [e, h'] at h
  cases h

def Ext (H H' : Hp) : Prop := ∀ a o, H a = some o → H' a = some o
theorem Ext.refl (H : Hp) : Ext H H := fun _ _ h => h
theorem Ext.trans {H H1 H2 : Hp} (a : Ext H H1) (b : Ext H1 H2) : Ext H H2 := fun x o h => b x o (a x o h)
theorem Ext.new {H : Hp} {p : Addr} {o : HO} (h : H p = none) : Ext H (upd H p o) := fun a u e => by
  rw [upd_ne (ne_of_none e h)]
  exact e

def TupAt (K : Fg) (G : Hp) (a : Addr) (xs : List V) : Prop :=
  (∃ o, TObj o ∧ G a = some (.frz o (.tup xs))) ∨ ∃ (o : Obj) (its : Array Value) (n : Nat), K.lookup a = some o ∧ TObj o ∧ o.data = .seq its n ∧ its.size ≤ sizeLine ∧ Vals xs its.toList
theorem TupAt.mono {K : Fg} {G G' : Hp} {a : Addr} {xs : List V} (e : Ext G G') (h : TupAt K G a xs) : TupAt K G' a xs := h.imp (fun ⟨o, t, z⟩ => ⟨o, t, e _ _ z⟩) id
theorem TupAt.new {K : Fg} {G : Hp} {a : Addr} {o : Obj} {xs : List V} (t : TObj o) : TupAt K (upd G a (.frz o (.tup xs))) a xs := .inl ⟨o, t, upd_same⟩
theorem TupAt.sq {K : Fg} {G H : Hp} {a : Addr} {xs : List V} (e : Ext G H) (h : TupAt K G a xs) : SqT K H a xs := h.imp (fun ⟨o, _, z⟩ => .inr ⟨o, e _ _ z⟩) fun ⟨o, its, n, h1, h2, h3⟩ => ⟨o, its, n, h1, h2.1, h3⟩
theorem sqlE {K : Fg} {G G' : Hp} {a : Addr} {xs : List V} (e : Ext G G') (h : SqL K G a xs) : SqL K G' a xs := h.imp (fun h => h.imp (e _ _) fun ⟨o, h⟩ => ⟨o, e _ _ h⟩) id
mutual
/-- the value v is the datum, by what is frozen -/
inductive Rp (K : Fg) (G : Hp) : V → PyData → Prop
  | non : Rp K G .non .none
  | bl (b : Bool) : Rp K G (.bl b) (.bool b)
  | int (i : Int) : Rp K G (.int i) (.int i)
  | str (x : Str) : Rp K G (.str x) (.str x)
  | lst {a : Addr} {xs : List V} {ds : List PyData} : SqL K G a xs → Rps K G xs ds → Rp K G (.ref a) (.list ds)
  | tup {a : Addr} {xs : List V} {ds : List PyData} : TupAt K G a xs → Rps K G xs ds → Rp K G (.ref a) (.tuple ds)
inductive Rps (K : Fg) (G : Hp) : List V → List PyData → Prop
  | nil : Rps K G [] []
  | cons {v : V} {vs : List V} {d : PyData} {ds : List PyData} : Rp K G v d → Rps K G vs ds → Rps K G (v :: vs) (d :: ds)
end
mutual
theorem Rp.mono {K : Fg} {G G' : Hp} (e : Ext G G') : ∀ {v : V} {d : PyData}, Rp K G v d → Rp K G' v d
  | _, _, .non => .non
  | _, _, .bl b => .bl b
  | _, _, .int i => .int i
  | _, _, .str x => .str x
  | _, _, .lst h hs => .lst (sqlE e h) (Rps.mono e hs)
  | _, _, .tup h hs => .tup (h.mono e) (Rps.mono e hs)
theorem Rps.mono {K : Fg} {G G' : Hp} (e : Ext G G') : ∀ {vs : List V} {ds : List PyData}, Rps K G vs ds → Rps K G' vs ds
  | _, _, .nil => .nil
  | _, _, .cons h hs => .cons (Rp.mono e h) (Rps.mono e hs)
end
mutual
theorem Rp.dp {K : Fg} {G H : Hp} (e : Ext G H) : ∀ {v : V} {d : PyData}, Rp K G v d → Dp K H v d
  | _, _, .non => .non
  | _, _, .bl b => .bl b
  | _, _, .int i => .int i
  | _, _, .str x => .str x
  | _, _, .lst h hs => .lst (sqlE e h) (Rps.dp e hs)
  | _, _, .tup h hs => .tup (h.sq e) (Rps.dp e hs)
theorem Rps.dp {K : Fg} {G H : Hp} (e : Ext G H) : ∀ {vs : List V} {ds : List PyData}, Rps K G vs ds → DpAll K H vs ds
  | _, _, .nil => .nil
  | _, _, .cons h hs => .cons (Rp.dp e h) (Rps.dp e hs)
end
section
variable {K : Fg} {G G' : Hp} {v : V} {vs ws : List V} {ds es : List PyData}
theorem Rps.length : ∀ {vs : List V} {ds : List PyData}, Rps K G vs ds → vs.length = ds.length
  | _, _, .nil => rfl
  | _, _, .cons _ t => congrArg Nat.succ (Rps.length t)
theorem rp_int {i : Int} (h : Rp K G v (.int i)) : v = .int i := by cases h; rfl
theorem rp_bl {b : Bool} (h : Rp K G v (.bool b)) : v = .bl b := by cases h; rfl
theorem rp_str {x : Str} (h : Rp K G v (.str x)) : v = .str x := by cases h; rfl
theorem rp_non (h : Rp K G v .none) : v = .non := by cases h; rfl
theorem rp_lst (h : Rp K G v (.list ds)) : ∃ a xs, v = .ref a ∧ SqL K G a xs ∧ Rps K G xs ds := by cases h; exact ⟨_, _, rfl, ‹_›, ‹_›⟩
theorem rp_tup (h : Rp K G v (.tuple ds)) : ∃ a xs, v = .ref a ∧ TupAt K G a xs ∧ Rps K G xs ds := by cases h; exact ⟨_, _, rfl, ‹_›, ‹_›⟩
theorem rps_ints : ∀ {ns : List Int} {vs : List V}, Rps K G vs (ns.map .int) → vs = ns.map V.int
  | [], _, h => by cases h; rfl
  | n :: ns, _, h => by
    cases h with
    | cons h1 h2 => rw [rp_int h1, rps_ints h2]; rfl
theorem rps_strs : ∀ {ns : List Str} {vs : List V}, Rps K G vs (ns.map .str) → vs = ns.map V.str
  | [], _, h => by cases h; rfl
  | n :: ns, _, h => by
    cases h with
    | cons h1 h2 => rw [rp_str h1, rps_strs h2]; rfl
theorem rps_ints' : ∀ (ns : List Int), Rps K G (ns.map V.int) (ns.map .int)
  | [] => .nil
  | n :: ns => .cons (.int n) (rps_ints' ns)
theorem rps_strs' : ∀ (ns : List Str), Rps K G (ns.map V.str) (ns.map .str)
  | [] => .nil
  | n :: ns => .cons (.str n) (rps_strs' ns)
theorem rps_bools' : ∀ (ns : List Bool), Rps K G (ns.map V.bl) (ns.map .bool)
  | [] => .nil
  | n :: ns => .cons (.bl n) (rps_bools' ns)
end

/-- the value v is u -/
def Ru (K : Fg) (G : Hp) (v : V) : U → Prop
  | .d x => Rp K G v x
  | .r a => v = .ref a
theorem Ru.mono {K : Fg} {G G' : Hp} (e : Ext G G') {v : V} : ∀ {u : U}, Ru K G v u → Ru K G' v u
  | .d _, h => Rp.mono e h
  | .r _, h => h
inductive Rus (K : Fg) (G : Hp) : List V → List U → Prop
  | nil : Rus K G [] []
  | cons {v : V} {vs : List V} {u : U} {us : List U} : Ru K G v u → Rus K G vs us → Rus K G (v :: vs) (u :: us)
section
variable {K : Fg} {G G' : Hp}
theorem Rus.mono (e : Ext G G') : ∀ {vs : List V} {us : List U}, Rus K G vs us → Rus K G' vs us
  | _, _, .nil => .nil
  | _, _, .cons h t => .cons (h.mono e) (Rus.mono e t)
theorem Rus.length : ∀ {vs : List V} {us : List U}, Rus K G vs us → vs.length = us.length
  | _, _, .nil => rfl
  | _, _, .cons _ t => congrArg Nat.succ (Rus.length t)
theorem Rus.append : ∀ {vs ws : List V} {us xs : List U}, Rus K G vs us → Rus K G ws xs → Rus K G (vs ++ ws) (us ++ xs)
  | _, _, _, _, .nil, h => h
  | _, _, _, _, .cons h t, k => .cons h (Rus.append t k)
theorem Rus.take : ∀ {vs : List V} {us : List U} (n : Nat), Rus K G vs us → Rus K G (vs.take n) (us.take n)
  | _, _, 0, _ => .nil
  | _, _, _ + 1, .nil => .nil
  | _, _, n + 1, .cons h t => .cons h (Rus.take n t)
theorem Rus.drop : ∀ {vs : List V} {us : List U} (n : Nat), Rus K G vs us → Rus K G (vs.drop n) (us.drop n)
  | _, _, 0, h => h
  | _, _, _ + 1, .nil => .nil
  | _, _, n + 1, .cons h t => Rus.drop n t
theorem Rus.set {v : V} {u : U} (r : Ru K G v u) : ∀ {vs : List V} {us : List U} (i : Nat), Rus K G vs us → Rus K G (vs.set i v) (us.set i u)
  | _, _, _, .nil => .nil
  | _, _, 0, .cons _ t => .cons r t
  | _, _, i + 1, .cons q t => .cons q (Rus.set r i t)
theorem Rus.erase : ∀ {vs : List V} {us : List U} (i : Nat), Rus K G vs us → Rus K G (vs.eraseIdx i) (us.eraseIdx i)
  | _, _, _, .nil => .nil
  | _, _, 0, .cons _ t => t
  | _, _, i + 1, .cons q t => .cons q (Rus.erase i t)
theorem Rus.get : ∀ {vs : List V} {us : List U} {i : Nat} {v : V}, Rus K G vs us → vs[i]? = some v → ∃ u, us[i]? = some u ∧ Ru K G v u
  | _, _, _, _, .nil, e => by simp at e
  | _, _, 0, _, .cons r _, e => by simp at e; subst e; exact ⟨_, rfl, r⟩
  | _, _, i + 1, _, .cons _ t, e => by
    obtain ⟨u, h1, h2⟩ := Rus.get (i := i) t (by simpa using e)
    exact ⟨u, by simpa using h1, h2⟩
theorem Rus.getU : ∀ {vs : List V} {us : List U} {i : Nat} {u : U}, Rus K G vs us → us[i]? = some u → ∃ v, vs[i]? = some v ∧ Ru K G v u
  | _, _, _, _, .nil, e => by simp at e
  | _, _, 0, _, .cons r _, e => by simp at e; subst e; exact ⟨_, rfl, r⟩
  | _, _, i + 1, _, .cons _ t, e => by
    obtain ⟨u, h1, h2⟩ := Rus.getU (i := i) t (by simpa using e)
    exact ⟨u, by simpa using h1, h2⟩
theorem Rus.reverse {vs : List V} {us : List U} (h : Rus K G vs us) : Rus K G vs.reverse us.reverse := by
  induction h with
  | nil => exact .nil
  | cons r t ih =>
    rw [List.reverse_cons, List.reverse_cons]
    exact ih.append (.cons r .nil)
theorem Rus.dropLast : ∀ {vs : List V} {us : List U}, Rus K G vs us → Rus K G vs.dropLast us.dropLast
  | _, _, .nil => .nil
  | _, _, .cons h .nil => .nil
  | _, _, .cons h (.cons h2 t) => .cons h (Rus.dropLast (.cons h2 t))
theorem rus_d : ∀ {vs : List V} {ds : List PyData}, Rps K G vs ds → Rus K G vs (ds.map U.d)
  | _, _, .nil => .nil
  | _, _, .cons h t => .cons h (rus_d t)
theorem d_rus : ∀ {ds : List PyData} {vs : List V}, Rus K G vs (ds.map U.d) → Rps K G vs ds
  | [], _, h => by cases h; exact .nil
  | d :: ds, _, h => by
    cases h with
    | cons h t => exact .cons h (d_rus t)
end
inductive Rkv (K : Fg) (G : Hp) : List (Key × V) → List (Key × U) → Prop
  | nil : Rkv K G [] []
  | cons {k : Key} {v : V} {vs : List (Key × V)} {u : U} {us : List (Key × U)} : Ru K G v u → Rkv K G vs us → Rkv K G ((k, v) :: vs) ((k, u) :: us)
theorem Rkv.mono {K : Fg} {G G' : Hp} (e : Ext G G') : ∀ {vs : List (Key × V)} {us : List (Key × U)}, Rkv K G vs us → Rkv K G' vs us
  | _, _, .nil => .nil
  | _, _, .cons h t => .cons (h.mono e) (Rkv.mono e t)

/-- what stands at the address of a thing that may change -/
def Mr (K : Fg) (G H : Hp) (a : Addr) : MO → Prop
  | .lst us => ∃ vs, H a = some (.lst vs) ∧ Rus K G vs us
  | .dct kvs => ∃ kws, H a = some (.dK kws) ∧ Rkv K G kws kvs
  | .hand => ∃ (c : Addr) (i r t : Int) (ns : List Int), H a = some (.lst [.ref c, .int i, .int r, .int t]) ∧ SqL K G c (ns.map V.int) ∧ ns.length ≤ 63 ∧ (∀ x ∈ ns, 0 ≤ x) ∧ 0 ≤ i ∧ i ≤ 63 ∧ 0 ≤ r
  | .tab q => ∃ ps : Array Value, H a = some (.tbl ps) ∧ TriplesOk ps.toList ∧ ∀ (pos : Pos) (cv : Value), codeAmong pos ps.toList = some cv → ∃ c, cv = .ref c ∧ G c = some (LamX.CodeO c q)
  | .lck o kws kvs => H a = some (.frz o (.dK kws)) ∧ Rkv K G kws kvs
theorem Mr.mono {K : Fg} {G G' H : Hp} {a : Addr} (e : Ext G G') : ∀ {m : MO}, Mr K G H a m → Mr K G' H a m
  | .lst _, ⟨vs, h, r⟩ => ⟨vs, h, r.mono e⟩
  | .dct _, ⟨vs, h, r⟩ => ⟨vs, h, r.mono e⟩
  | .hand, ⟨c, i, r, t, ns, h, g, q⟩ => ⟨c, i, r, t, ns, h, sqlE e g, q⟩
  | .tab _, ⟨ps, h, t, k⟩ => ⟨ps, h, t, fun p cv z => let ⟨c, e1, e2⟩ := k p cv z; ⟨c, e1, e _ _ e2⟩⟩
  | .lck _ _ _, ⟨h, r⟩ => ⟨h, r.mono e⟩
theorem Mr.other {K : Fg} {G H H' : Hp} {a : Addr} (e : H' a = H a) : ∀ {m : MO}, Mr K G H a m → Mr K G H' a m
  | .lst _, ⟨vs, h, r⟩ => ⟨vs, e.trans h, r⟩
  | .dct _, ⟨vs, h, r⟩ => ⟨vs, e.trans h, r⟩
  | .hand, ⟨c, i, r, t, ns, h, g, q⟩ => ⟨c, i, r, t, ns, e.trans h, g, q⟩
  | .tab _, ⟨ps, h, t⟩ => ⟨ps, e.trans h, t⟩
  | .lck _ _ _, ⟨h, r⟩ => ⟨e.trans h, r⟩
theorem Mr.some {K : Fg} {G H : Hp} {a : Addr} : ∀ {m : MO}, Mr K G H a m → ∃ o, H a = some o
  | .lst _, ⟨vs, h, r⟩ => ⟨_, h⟩
  | .dct _, ⟨vs, h, r⟩ => ⟨_, h⟩
  | .hand, ⟨c, i, r, t, ns, h, _⟩ => ⟨_, h⟩
  | .tab _, ⟨_, h, _⟩ => ⟨_, h⟩
  | .lck _ _ _, ⟨h, _⟩ => ⟨_, h⟩
/-- the state: F a frame that nobody changes, G what is frozen, μ what may change -/
structure St3 (K : Fg) (F G H : Hp) (μ : Mu) : Prop where
  sub : Ext G H
  fr : ∀ a o, F a = some o → H a = some o ∧ G a = none ∧ μ a = none
  mu : ∀ a m, μ a = some m → G a = none ∧ Mr K G H a m
section
variable {K : Fg} {F G H : Hp} {μ : Mu} {p : Addr} {o : HO}
theorem St3.gnone (S : St3 K F G H μ) (h : H p = none) : G p = none := by
  cases q : G p with
  | none => rfl
  | some o => rw [S.sub _ _ q] at h; cases h
theorem St3.fnone (S : St3 K F G H μ) (h : H p = none) : F p = none := by
  cases q : F p with
  | none => rfl
  | some o => rw [(S.fr _ _ q).1] at h; cases h
theorem St3.mnone (S : St3 K F G H μ) (h : H p = none) : μ p = none := by
  cases q : μ p with
  | none => rfl
  | some o =>
    obtain ⟨o', e⟩ := (S.mu _ _ q).2.some
    rw [e] at h; cases h
/-- a new frozen object -/
theorem St3.newG (S : St3 K F G H μ) (h : H p = none) : Ext G (upd G p o) ∧ St3 K F (upd G p o) (upd H p o) μ := by
  have hg := S.gnone h
  have hf := S.fnone h
  have hm := S.mnone h
  refine ⟨Ext.new hg, fun a u e => ?_, fun a u e => ?_, fun a m e => ?_⟩
  · by_cases q : a = p
    · subst q; rw [upd_same] at e ⊢; exact e
    · rw [upd_ne q] at e ⊢; exact S.sub _ _ e
  · have q : a ≠ p := ne_of_none e hf
    obtain ⟨h1, h2, h3⟩ := S.fr _ _ e
    exact ⟨by rw [upd_ne q]; exact h1, by rw [upd_ne q]; exact h2, h3⟩
  · have q : a ≠ p := mne e hm
    obtain ⟨h1, h2⟩ := S.mu _ _ e
    exact ⟨by rw [upd_ne q]; exact h1, (h2.mono (Ext.new hg)).other (upd_ne q)⟩
/-- a new object that may change -/
theorem St3.newM (S : St3 K F G H μ) {m : MO} (h : H p = none) (hm : Mr K G (upd H p o) p m) : St3 K F G (upd H p o) (put μ p m) := by
  have hg := S.gnone h
  have hf := S.fnone h
  refine ⟨fun a u e => ?_, fun a u e => ?_, fun a m' e => ?_⟩
  · rw [upd_ne (ne_of_none e hg)]; exact S.sub _ _ e
  · have q : a ≠ p := ne_of_none e hf
    obtain ⟨h1, h2, h3⟩ := S.fr _ _ e
    exact ⟨by rw [upd_ne q]; exact h1, h2, by rw [put_ne q]; exact h3⟩
  · by_cases q : a = p
    · subst q; rw [put_same] at e; cases e; exact ⟨hg, hm⟩
    · rw [put_ne q] at e
      obtain ⟨h1, h2⟩ := S.mu _ _ e
      exact ⟨h1, h2.other (upd_ne q)⟩
/-- a new object that nobody tracks -/
theorem St3.newF (S : St3 K F G H μ) (h : H p = none) : St3 K (upd F p o) G (upd H p o) μ := by
  have hg := S.gnone h
  have hf := S.fnone h
  have hm := S.mnone h
  refine ⟨fun a u e => ?_, fun a u e => ?_, fun a m' e => ?_⟩
  · rw [upd_ne (ne_of_none e hg)]; exact S.sub _ _ e
  · by_cases q : a = p
    · subst q; rw [upd_same] at e ⊢; exact ⟨e, hg, hm⟩
    · rw [upd_ne q] at e
      obtain ⟨h1, h2, h3⟩ := S.fr _ _ e
      exact ⟨by rw [upd_ne q]; exact h1, h2, h3⟩
  · obtain ⟨h1, h2⟩ := S.mu _ _ e
    exact ⟨h1, h2.other (upd_ne (mne e hm))⟩
/-- a framed object written -/
theorem St3.setF {o' : HO} (S : St3 K (upd F p o) G H μ) : St3 K (upd F p o') G (upd H p o') μ := by
  obtain ⟨_, hg, hm⟩ := S.fr p o upd_same
  refine ⟨fun a u e => ?_, fun a u e => ?_, fun a m' e => ?_⟩
  · rw [upd_ne (ne_of_none e hg)]; exact S.sub _ _ e
  · by_cases q : a = p
    · subst q; rw [upd_same] at e ⊢; exact ⟨e, hg, hm⟩
    · rw [upd_ne q] at e
      obtain ⟨h1, h2, h3⟩ := S.fr a u (by rw [upd_ne q]; exact e)
      exact ⟨by rw [upd_ne q]; exact h1, h2, h3⟩
  · obtain ⟨h1, h2⟩ := S.mu _ _ e
    exact ⟨h1, h2.other (upd_ne (mne e hm))⟩
/-- a framed object becomes frozen -/
theorem St3.unF (S : St3 K (upd F p o) G H μ) (hf : F p = none) : Ext G (upd G p o) ∧ St3 K F (upd G p o) H μ := by
  obtain ⟨hh, hg, hm⟩ := S.fr p o upd_same
  refine ⟨Ext.new hg, fun a u e => ?_, fun a u e => ?_, fun a m' e => ?_⟩
  · by_cases q : a = p
    · subst q; rw [upd_same] at e; cases e; exact hh
    · rw [upd_ne q] at e; exact S.sub _ _ e
  · have q : a ≠ p := ne_of_none e hf
    obtain ⟨h1, h2, h3⟩ := S.fr a u (by rw [upd_ne q]; exact e)
    exact ⟨h1, by rw [upd_ne q]; exact h2, h3⟩
  · obtain ⟨h1, h2⟩ := S.mu _ _ e
    have q : a ≠ p := mne e hm
    exact ⟨by rw [upd_ne q]; exact h1, h2.mono (Ext.new hg)⟩
/-- a framed object becomes one that may change -/
theorem St3.unFM (S : St3 K (upd F p o) G H μ) (hf : F p = none) {m : MO} (h : Mr K G H p m) : St3 K F G H (put μ p m) := by
  obtain ⟨hh, hg, hm⟩ := S.fr p o upd_same
  refine ⟨S.sub, fun a u e => ?_, fun a m' e => ?_⟩
  · have q : a ≠ p := ne_of_none e hf
    obtain ⟨h1, h2, h3⟩ := S.fr a u (by rw [upd_ne q]; exact e)
    exact ⟨h1, h2, by rw [put_ne q]; exact h3⟩
  · by_cases q : a = p
    · subst q; rw [put_same] at e; cases e; exact ⟨hg, h⟩
    · rw [put_ne q] at e; exact S.mu _ _ e
/-- a thing that may change is changed -/
theorem St3.write (S : St3 K F G H μ) {m m' : MO} (h : μ p = some m) (hm : Mr K G (upd H p o) p m') : St3 K F G (upd H p o) (put μ p m') := by
  obtain ⟨hg, _⟩ := S.mu _ _ h
  refine ⟨fun a u e => ?_, fun a u e => ?_, fun a m' e => ?_⟩
  · rw [upd_ne (ne_of_none e hg)]; exact S.sub _ _ e
  · obtain ⟨h1, h2, h3⟩ := S.fr _ _ e
    have q : a ≠ p := fun z => by subst z; rw [h] at h3; cases h3
    exact ⟨by rw [upd_ne q]; exact h1, h2, by rw [put_ne q]; exact h3⟩
  · by_cases q : a = p
    · subst q; rw [put_same] at e; cases e; exact ⟨hg, hm⟩
    · rw [put_ne q] at e
      obtain ⟨h1, h2⟩ := S.mu _ _ e
      exact ⟨h1, h2.other (upd_ne q)⟩
/-- another word for what may change -/
theorem St3.reword (S : St3 K F G H μ) {m m' : MO} (h : μ p = some m) (hm : Mr K G H p m') : St3 K F G H (put μ p m') := by
  refine ⟨S.sub, fun a u e => ?_, fun a m'' e => ?_⟩
  · obtain ⟨h1, h2, h3⟩ := S.fr _ _ e
    have q : a ≠ p := fun z => by subst z; rw [h] at h3; cases h3
    exact ⟨h1, h2, by rw [put_ne q]; exact h3⟩
  · by_cases q : a = p
    · subst q; rw [put_same] at e; cases e; exact ⟨(S.mu _ _ h).1, hm⟩
    · rw [put_ne q] at e; exact S.mu _ _ e
theorem St3.drop (S : St3 K F G H μ) : St3 K F G H (del μ p) := by
  refine ⟨S.sub, fun a u e => ?_, fun a m e => ?_⟩
  · obtain ⟨h1, h2, h3⟩ := S.fr _ _ e
    refine ⟨h1, h2, ?_⟩
    by_cases q : a = p
    · subst q; exact del_same
    · rw [del_ne q]; exact h3
  · by_cases q : a = p
    · subst q; rw [del_same] at e; cases e
    · rw [del_ne q] at e; exact S.mu _ _ e
theorem St3.freeze (S : St3 K F G H μ) {ds : List PyData} (h : μ p = some (.lst (ds.map U.d))) : ∃ vs, Ext G (upd G p (.lst vs)) ∧ St3 K F (upd G p (.lst vs)) H (del μ p) ∧ Rp K (upd G p (.lst vs)) (.ref p) (.list ds) := by
  obtain ⟨hg, vs, hh, r⟩ := S.mu _ _ h
  have e0 : Ext G (upd G p (.lst vs)) := Ext.new hg
  refine ⟨vs, e0, ⟨fun a u e => ?_, fun a u e => ?_, fun a m e => ?_⟩, .lst (SqL.of upd_same) ((d_rus r).mono e0)⟩
  · by_cases q : a = p
    · subst q; rw [upd_same] at e; cases e; exact hh
    · rw [upd_ne q] at e; exact S.sub _ _ e
  · obtain ⟨h1, h2, h3⟩ := S.fr _ _ e
    have q : a ≠ p := fun z => by subst z; rw [h] at h3; cases h3
    exact ⟨h1, by rw [upd_ne q]; exact h2, by rw [del_ne q]; exact h3⟩
  · by_cases q : a = p
    · subst q; rw [del_same] at e; cases e
    · rw [del_ne q] at e
      obtain ⟨h1, h2⟩ := S.mu _ _ e
      exact ⟨by rw [upd_ne q]; exact h1, h2.mono e0⟩
theorem St3.lst (S : St3 K F G H μ) {us : List U} (h : μ p = some (.lst us)) : ∃ vs, H p = some (.lst vs) ∧ Rus K G vs us := (S.mu _ _ h).2
end
structure Sim (K : Fg) (F G H : Hp) (μ : Mu) (σ : L2.St) (ρ : Rho) : Prop where
  st : St3 K F G H μ
  len : σ.length = ρ.length
  sl : ∀ (i : Nat) (u : U), ρ[i]? = some (some u) → ∃ v, σ[i]? = some (some v) ∧ Ru K G v u
section
variable {K : Fg} {F G H G' H' : Hp} {μ μ' : Mu} {σ : L2.St} {ρ : Rho} {i : Nat} {v : V} {u : U}
theorem Sim.mono (S : Sim K F G H μ σ ρ) (e : Ext G G') (S' : St3 K F G' H' μ') : Sim K F G' H' μ' σ ρ :=
  ⟨S', S.len, fun i u h => let ⟨v, h1, h2⟩ := S.sl i u h; ⟨v, h1, h2.mono e⟩⟩
theorem Sim.set (S : Sim K F G H μ σ ρ) (r : Ru K G v u) : Sim K F G H μ (σ.set i (some v)) (ρ.set i (some u)) := by
  refine ⟨S.st, by rw [List.length_set, List.length_set]; exact S.len, fun j u' h => ?_⟩
  by_cases q : i = j
  · subst q
    have hl : i < (ρ.set i (some u)).length := (List.getElem?_eq_some_iff.mp h).1
    rw [List.length_set] at hl
    rw [List.getElem?_set_self hl] at h
    cases h
    exact ⟨v, List.getElem?_set_self (by rw [S.len]; exact hl), r⟩
  · rw [List.getElem?_set_ne q] at h
    obtain ⟨v', h1, h2⟩ := S.sl j u' h
    exact ⟨v', by rw [List.getElem?_set_ne q]; exact h1, h2⟩
theorem Sim.frame {F' : Hp} (S : Sim K F G H μ σ ρ) (S' : St3 K F' G H' μ') : Sim K F' G H' μ' σ ρ := ⟨S', S.len, S.sl⟩
end

/-! ### the judgements: what a reading is worth -/
abbrev XP := U → Mu → Prop
abbrev WX := Rho → Mu → XP → Prop
abbrev WB := Rho → Mu → (Bool → Mu → Prop) → Prop
abbrev WL := Rho → Mu → (List U → Mu → Prop) → Prop
def RE (K : Fg) (t : TE) (w : WX) : Prop := ∀ (F G H : Hp) (μ : Mu) (σ : L2.St) (ρ : Rho) (P : XP) (Q : VK), Sim K F G H μ σ ρ → w ρ μ P →
  (∀ v u G' H' μ', Ext G G' → St3 K F G' H' μ' → Ru K G' v u → P u μ' → Q v H') → t σ H Q
def RT (K : Fg) (t : TT) (w : WB) : Prop := ∀ (F G H : Hp) (μ : Mu) (σ : L2.St) (ρ : Rho) (P : Bool → Mu → Prop) (Q : Bool → Hp → Prop), Sim K F G H μ σ ρ → w ρ μ P →
  (∀ b G' H' μ', Ext G G' → St3 K F G' H' μ' → P b μ' → Q b H') → t σ H Q
def RA (K : Fg) (t : TA) (w : WL) : Prop := ∀ (F G H : Hp) (μ : Mu) (σ : L2.St) (ρ : Rho) (P : List U → Mu → Prop) (Q : List V → Hp → Prop), Sim K F G H μ σ ρ → w ρ μ P →
  (∀ vs us G' H' μ', Ext G G' → St3 K F G' H' μ' → Rus K G' vs us → P us μ' → Q vs H') → t σ H Q
structure End3 where
  nx : Rho → Mu → Prop
  rt : XP
  bk : Rho → Mu → Prop := fun _ _ => False
  ct : Rho → Mu → Prop := fun _ _ => False
structure Link (K : Fg) (F G : Hp) (D : Ends) (B : End3) : Prop where
  nx : ∀ σ G' H ρ μ, Ext G G' → Sim K F G' H μ σ ρ → B.nx ρ μ → D.nx σ H
  rt : ∀ v u G' H μ, Ext G G' → St3 K F G' H μ → Ru K G' v u → B.rt u μ → D.rt v H
  bk : ∀ σ G' H ρ μ, Ext G G' → Sim K F G' H μ σ ρ → B.bk ρ μ → D.bk σ H
  ct : ∀ σ G' H ρ μ, Ext G G' → Sim K F G' H μ σ ρ → B.ct ρ μ → D.ct σ H
theorem Link.mono {K : Fg} {F G G' : Hp} {D : Ends} {B : End3} (L : Link K F G D B) (e : Ext G G') : Link K F G' D B :=
  ⟨fun _ _ _ _ _ x => L.nx _ _ _ _ _ (e.trans x), fun _ _ _ _ _ x => L.rt _ _ _ _ _ (e.trans x), fun _ _ _ _ _ x => L.bk _ _ _ _ _ (e.trans x), fun _ _ _ _ _ x => L.ct _ _ _ _ _ (e.trans x)⟩
abbrev WSt := End3 → Rho → Mu → Prop
def RS (K : Fg) (t : TS) (w : WSt) : Prop := ∀ (F G H : Hp) (μ : Mu) (σ : L2.St) (ρ : Rho) (D : Ends) (B : End3), Sim K F G H μ σ ρ → Link K F G D B → w B ρ μ → t D σ H
abbrev WTg := U → Rho → Mu → (Rho → Mu → Prop) → Prop
def RG (K : Fg) (t : TG) (w : WTg) : Prop := ∀ (F G H : Hp) (μ : Mu) (σ : L2.St) (ρ : Rho) (v : V) (u : U) (P : Rho → Mu → Prop) (Q : L2.St → Hp → Prop), Sim K F G H μ σ ρ → Ru K G v u → w u ρ μ P →
  (∀ σ' G' H' ρ' μ', Ext G G' → Sim K F G' H' μ' σ' ρ' → P ρ' μ' → Q σ' H') → t v σ H Q

structure WE (X : Cx) (e : Expr) (t : TE) (w : WX) : Prop where
  pe : PE X e t
  re : RE X.K t w
structure WT (X : Cx) (e : Expr) (t : TT) (w : WB) : Prop where
  pt : PT X e t
  rt : RT X.K t w
structure WW (X : Cx) (e : Expr) (t : TT) (w : WB) : Prop where
  pw : PW X e t
  rt : RT X.K t w
structure WAr (X : Cx) (es : List Expr) (t : TA) (w : WL) : Prop where
  pa : PA X es t
  ra : RA X.K t w
structure WS (X : Cx) (s : Stmt) (t : TS) (w : WSt) : Prop where
  ps : PS X s t
  rs : RS X.K t w
structure WSs (X : Cx) (s : List Stmt) (t : TS) (w : WSt) : Prop where
  ps : PSs X s t
  rs : RS X.K t w
structure WG (X : Cx) (e : Expr) (t : TG) (w : WTg) : Prop where
  pg : PG X e t
  rg : RG X.K t w
end L3

namespace L3
open PySem PySem.Spec PyProof.Rows L2

/-! ### list + list, whoever owns them -/
def rCatW (K : Fg) : R2 := fun x y H Q => ∃ l b xs zs, x = .ref l ∧ y = .ref b ∧ SqL K H l xs ∧ SqL K H b zs ∧ xs.length + zs.length ≤ sizeLine ∧ ∀ p, H p = none → Q (.ref p) (upd H p (.lst (xs ++ zs)))
theorem op_catW {X : Cx} : OpR X (binaryOp .Add) (rCatW X.K) := by
  intro pins s σ H x y v u Q I rx ry h
  obtain ⟨l, b, xs, zs, rfl, rfl, hH, hB, hz, q⟩ := h
  cases rx
  cases ry
  obtain ⟨its, r, ⟨⟨cls, dd, data, sl⟩, n, ho, hc, hdd, hd⟩, _⟩ := I.list hH
  obtain ⟨its2, r2, ⟨⟨cls2, dd2, data2, sl2⟩, n2, ho2, hc2, hdd2, hd2⟩, _⟩ := I.list hB
  simp only at hc hd hdd hc2 hd2 hdd2
  subst hc hd hdd hc2 hd2 hdd2
  refine concat_meets ⟨_, ho, rfl⟩ ⟨_, ho2, rfl⟩ noFill_list_add seq_list_add PySem.F.slot_list_add PySem.F.entry_list_add (PySem.F.args_list_add_2 _ _) (list_addW l b its.toArray its2.toArray n n2 none none sl sl2 (by rw [List.size_toArray, List.size_toArray, ← r.length, ← r2.length]; exact hz)) ⟨ho, ho2, ?_⟩
  have ea : its.toArray ++ its2.toArray = (its ++ its2).toArray := by simp
  rw [ea]
  exact ⟨.ref _, _, I.lnew (t' := s.toks) (r.append r2) (by rw [List.length_append]; omega), rfl, q _ I.fresh⟩
/-! ### what may be read as a row of things -/
def itemsU (μ : Mu) : U → Option (List U)
  | .d (.list l) => some (l.map .d)
  | .d (.tuple l) => some (l.map .d)
  | .r a => (match μ a with
    | some (.lst us) => some us
    | _ => none)
  | _ => none
def listU (μ : Mu) : U → Option (List U)
  | .d (.list l) => some (l.map .d)
  | .r a => (match μ a with
    | some (.lst us) => some us
    | _ => none)
  | _ => none
section
variable {K : Fg} {F G H : Hp} {μ : Mu} {v : V} {u : U} {us : List U}
theorem listU_ok (S : St3 K F G H μ) (r : Ru K G v u) (h : listU μ u = some us) : ∃ a vs, v = .ref a ∧ SqL K H a vs ∧ Rus K G vs us := by
  cases u with
  | d x =>
    cases x with
    | list l =>
      obtain ⟨a, xs, rfl, h1, h2⟩ := rp_lst r
      cases h
      exact ⟨a, xs, rfl, sqlE S.sub h1, rus_d h2⟩
    | _ => cases h
  | r a =>
    have h' : (match μ a with
      | some (.lst us) => some us
      | _ => none) = some us := h
    cases q : μ a with
    | none => rw [q] at h'; cases h'
    | some m =>
      rw [q] at h'
      cases m with
      | lst ws =>
        cases h'
        obtain ⟨vs, h1, h2⟩ := S.lst q
        exact ⟨a, vs, r, SqL.of h1, h2⟩
      | _ => cases h'
theorem itemsU_ok (S : St3 K F G H μ) (r : Ru K G v u) (h : itemsU μ u = some us) : ∃ a vs, v = .ref a ∧ (SqL K H a vs ∨ SqT K H a vs) ∧ Rus K G vs us := by
  cases u with
  | d x =>
    cases x with
    | tuple l =>
      obtain ⟨a, xs, rfl, h1, h2⟩ := rp_tup r
      cases h
      exact ⟨a, xs, rfl, .inr (h1.sq S.sub), rus_d h2⟩
    | list l =>
      obtain ⟨a, vs, e, h1, h2⟩ := listU_ok (us := us) S r h
      exact ⟨a, vs, e, .inl h1, h2⟩
    | _ => cases h
  | r a =>
    obtain ⟨a, vs, e, h1, h2⟩ := listU_ok (us := us) S r h
    exact ⟨a, vs, e, .inl h1, h2⟩
end

/-! ### names, constants -/
def wV (i : Nat) : WX := fun ρ μ P => ∃ u, ρ[i]? = some (some u) ∧ P u μ
def wC (x : PyData) : WX := fun _ μ P => P (.d x) μ
section
variable {K : Fg} {X : Cx} {pos : Pos}
theorem re_var {i : Nat} : RE K (tVar i) (wV i) := fun F G H μ σ ρ P Q S ⟨u, h, p⟩ q =>
  let ⟨v, h1, h2⟩ := S.sl i u h
  ⟨v, h1, q v u G H μ (Ext.refl G) S.st h2 p⟩
theorem re_c {v : V} {x : PyData} (h : ∀ G, Rp K G v x) : RE K (tC v) (wC x) := fun F G H μ σ ρ P Q S p q => q v (.d x) G H μ (Ext.refl G) S.st (h G) p
theorem w_v (i : Nat) {x : Str} (hN : X.N[i]? = some x := by rfl) (hv : Vis X.env.scope x := by first | exact Or.inl rfl | exact Or.inr (Or.inl rfl) | exact Or.inr (Or.inr rfl)) (hd : (x == ("__debug__" : Str)) = false := by decide)
    (hcd : (x == ("__classdict__" : Str)) = false := by decide) : WE X (.Name x pos) (tVar i) (wV i) := ⟨pe_var hN hv hd hcd, re_var⟩
theorem w_int {i : Int} {j : Nat} : WE X (.Constant (.int i) j pos) (tC (.int i)) (wC (.int i)) := ⟨pe_int, re_c fun _ => .int i⟩
theorem w_bl {b : Bool} {j : Nat} : WE X (.Constant (.bool b) j pos) (tC (.bl b)) (wC (.bool b)) := ⟨pe_bl, re_c fun _ => .bl b⟩
theorem w_non {j : Nat} : WE X (.Constant .none j pos) (tC .non) (wC .none) := ⟨pe_non, re_c fun _ => .non⟩
theorem w_str {x : Str} {j : Nat} : WE X (.Constant (.str x) j pos) (tC (.str x)) (wC (.str x)) := ⟨pe_str, re_c fun _ => .str x⟩
end

/-! ### operators -/
abbrev WR := U → U → Mu → XP → Prop
def RO (K : Fg) (r : R2) (s : WR) : Prop := ∀ (F G H : Hp) (μ : Mu) (x y : V) (u w : U) (P : XP) (Q : VK), St3 K F G H μ → Ru K G x u → Ru K G y w → s u w μ P →
  (∀ v u' G' H' μ', Ext G G' → St3 K F G' H' μ' → Ru K G' v u' → P u' μ' → Q v H') → r x y H Q
def wOp (s : WR) (a b : WX) : WX := fun ρ μ P => a ρ μ fun x μ1 => b ρ μ1 fun y μ2 => s x y μ2 P
def sI (C : Int → Int → Prop) (g : Int → Int → PyData) : WR := fun u w μ P => ∃ i j, u = .d (.int i) ∧ w = .d (.int j) ∧ C i j ∧ P (.d (g i j)) μ
def sI0 (g : Int → Int → PyData) : WR := fun u w μ P => ∃ i j, u = .d (.int i) ∧ w = .d (.int j) ∧ P (.d (g i j)) μ
def sS (g : Str → Str → PyData) : WR := fun u w μ P => ∃ i j, u = .d (.str i) ∧ w = .d (.str j) ∧ P (.d (g i j)) μ
def sEq (f : Bool → Bool) : WR := fun u w μ P => ∃ a b, u = .d a ∧ w = .d b ∧ SeqAt.shaped a = true ∧ SeqAt.shaped b = true ∧ P (.d (.bool (f (PyData.eqv a b)))) μ
def sCatS : WR := fun u w μ P => ∃ i j, u = .d (.str i) ∧ w = .d (.str j) ∧ i.length + j.length ≤ sizeLine ∧ P (.d (.str (i ++ j))) μ
/-- x is a truth: b says which -/
def isTruth (b : Bool) : U → Bool
  | .d (.bool c) => c == b
  | _ => false
def sIs (b : Bool) (f : Bool → Bool) : WR := fun u w μ P => w = .d (.bool b) ∧ P (.d (.bool (f (isTruth b u)))) μ
def isNon : U → Bool
  | .d .none => true
  | _ => false
def sIsN (f : Bool → Bool) : WR := fun u w μ P => w = .d .none ∧ P (.d (.bool (f (isNon u)))) μ
/-- x in row: all texts, or all numbers -/
def sInS (f : Bool → Bool) : WR := fun u w μ P => ∃ (z : Str) (zs : List Str), u = .d (.str z) ∧ itemsU μ w = some (zs.map fun y => U.d (.str y)) ∧ P (.d (.bool (f (decide (z ∈ zs))))) μ
def sInI (f : Bool → Bool) : WR := fun u w μ P => ∃ (z : Int) (zs : List Int), u = .d (.int z) ∧ itemsU μ w = some (zs.map fun y => U.d (.int y)) ∧ P (.d (.bool (f (decide (z ∈ zs))))) μ
def ixU (μ : Mu) (u : U) (i : Int) : Option U :=
  match u with
  | .d (.str z) => if z.length ≤ sizeLine then (atI z.cps.toList i).map fun c => .d (.str ⟨#[c]⟩) else none
  | u => (itemsU μ u).bind fun us => atI us i
def sIx : WR := fun u w μ P => ∃ i z, w = .d (.int i) ∧ ixU μ u i = some z ∧ P z μ
/-- lists put together: a new frozen one -/
def sCatL : WR := fun u w μ P => ∃ (xs ys : List PyData), listU μ u = some (xs.map U.d) ∧ listU μ w = some (ys.map U.d) ∧ xs.length + ys.length ≤ sizeLine ∧ P (.d (.list (xs ++ ys))) μ
section
variable {K : Fg} {X : Cx} {pos : Pos} {a b : Expr} {ta tb : TE} {wa wb : WX}
theorem re_op {r : R2} {s : WR} (hr : RO K r s) (ha : RE K ta wa) (hb : RE K tb wb) : RE K (tOp r ta tb) (wOp s wa wb) := fun F G H μ σ ρ P Q S h q =>
  ha F G H μ σ ρ _ _ S h fun x u G1 H1 μ1 e1 S1 r1 h1 => hb F G1 H1 μ1 σ ρ _ _ (S.mono e1 S1) h1 fun y w G2 H2 μ2 e2 S2 r2 h2 =>
    hr F G2 H2 μ2 x y u w P Q S2 (r1.mono e2) r2 h2 fun v u' G3 H3 μ3 e3 S3 r3 p => q v u' G3 H3 μ3 ((e1.trans e2).trans e3) S3 r3 p
theorem ro_I {C : Int → Int → Prop} {gv : Int → Int → V} {g : Int → Int → PyData} (hg : ∀ G i j, Rp K G (gv i j) (g i j)) : RO K (rI C gv) (sI C g) := fun F G H μ x y u w P Q S rx ry ⟨i, j, e1, e2, c, p⟩ q => by
  subst e1 e2
  exact ⟨i, j, rp_int rx, rp_int ry, c, q (gv i j) (.d (g i j)) G H μ (Ext.refl G) S (hg G i j) p⟩
theorem ro_I0 {gv : Int → Int → V} {g : Int → Int → PyData} (hg : ∀ G i j, Rp K G (gv i j) (g i j)) : RO K (rI0 gv) (sI0 g) := fun F G H μ x y u w P Q S rx ry ⟨i, j, e1, e2, p⟩ q => by
  subst e1 e2
  exact ⟨i, j, rp_int rx, rp_int ry, q (gv i j) (.d (g i j)) G H μ (Ext.refl G) S (hg G i j) p⟩
theorem ro_S {gv : Str → Str → V} {g : Str → Str → PyData} (hg : ∀ G i j, Rp K G (gv i j) (g i j)) : RO K (fun x y H Q => ∃ i j, x = .str i ∧ y = .str j ∧ Q (gv i j) H) (sS g) := fun F G H μ x y u w P Q S rx ry ⟨i, j, e1, e2, p⟩ q => by
  subst e1 e2
  exact ⟨i, j, rp_str rx, rp_str ry, q (gv i j) (.d (g i j)) G H μ (Ext.refl G) S (hg G i j) p⟩
theorem ro_eq : RO K (rEqD K) (sEq id) := fun F G H μ x y u w P Q S rx ry ⟨a, b, e1, e2, s1, s2, p⟩ q => by
  subst e1 e2
  exact ⟨a, b, Rp.dp S.sub rx, Rp.dp S.sub ry, s1, s2, q (.bl _) (.d (.bool _)) G H μ (Ext.refl G) S (Rp.bl _) p⟩
theorem ro_ne : RO K (rNeD K) (sEq not) := fun F G H μ x y u w P Q S rx ry ⟨a, b, e1, e2, s1, s2, p⟩ q => by
  subst e1 e2
  exact ⟨a, b, Rp.dp S.sub rx, Rp.dp S.sub ry, s1, s2, q (.bl _) (.d (.bool _)) G H μ (Ext.refl G) S (Rp.bl _) p⟩
theorem ro_catS : RO K (fun x y H Q => ∃ i j, x = .str i ∧ y = .str j ∧ i.length + j.length ≤ sizeLine ∧ Q (.str (i ++ j)) H) sCatS := fun F G H μ x y u w P Q S rx ry ⟨i, j, e1, e2, z, p⟩ q => by
  subst e1 e2
  exact ⟨i, j, rp_str rx, rp_str ry, z, q (.str _) (.d (.str _)) G H μ (Ext.refl G) S (Rp.str _) p⟩
/-- x is b, b a written truth -/
def rIsB (b : Bool) (f : Bool → Bool) : R2 := fun x y H Q => y = .bl b ∧ Q (.bl (f (decide (x = .bl b)))) H
theorem op_isB {b : Bool} : OpR X (compareOp .Is) (rIsB b id) := by
  intro pins s σ H x y v u Q I rx ry h
  obtain ⟨rfl, q⟩ := h
  cases (show u = Value.bool b from ry)
  by_cases e : x = .bl b
  · subst e
    cases (show v = Value.bool b from rx)
    exact wpAny_is_self rfl ⟨.bl true, H, I, rfl, by simpa using q⟩
  · have hv : v ≠ Value.bool b := fun z => by
      subst z
      cases x with
      | bl c =>
        have : Value.bool b = Value.bool c := rx
        cases this
        exact e rfl
      | non => cases rx
      | int i => obtain ⟨t, h⟩ := rx; cases h
      | str i => obtain ⟨t, h⟩ := rx; cases h
      | byt i => obtain ⟨t, h⟩ := rx; cases h
      | flt i => obtain ⟨t, h⟩ := rx; cases h
      | ref a => cases rx
      | ty n => cases rx
    have hp : plainIs v (.bool b) = true := by
      cases x with
      | bl c => cases (show v = Value.bool c from rx); rfl
      | non => cases rx; rfl
      | int i => obtain ⟨t, rfl⟩ := rx; rfl
      | str i => obtain ⟨t, rfl⟩ := rx; rfl
      | byt i => obtain ⟨t, rfl⟩ := rx; rfl
      | flt i => obtain ⟨t, rfl⟩ := rx; rfl
      | ref a => cases rx; rfl
      | ty n => cases (show v = Value.type n from rx); rfl
    exact wpAny_is_other hp hv ⟨.bl false, H, I, rfl, by simpa [e] using q⟩
theorem op_isnotB {b : Bool} : OpR X (compareOp .IsNot) (rIsB b not) := by
  intro pins s σ H x y v u Q I rx ry h
  obtain ⟨rfl, q⟩ := h
  cases (show u = Value.bool b from ry)
  by_cases e : x = .bl b
  · subst e
    cases (show v = Value.bool b from rx)
    exact wpAny_isNot_self rfl ⟨.bl false, H, I, rfl, by simpa using q⟩
  · have hv : v ≠ Value.bool b := fun z => by
      subst z
      cases x with
      | bl c =>
        have : Value.bool b = Value.bool c := rx
        cases this
        exact e rfl
      | non => cases rx
      | int i => obtain ⟨t, h⟩ := rx; cases h
      | str i => obtain ⟨t, h⟩ := rx; cases h
      | byt i => obtain ⟨t, h⟩ := rx; cases h
      | flt i => obtain ⟨t, h⟩ := rx; cases h
      | ref a => cases rx
      | ty n => cases rx
    have hp : plainIs v (.bool b) = true := by
      cases x with
      | bl c => cases (show v = Value.bool c from rx); rfl
      | non => cases rx; rfl
      | int i => obtain ⟨t, rfl⟩ := rx; rfl
      | str i => obtain ⟨t, rfl⟩ := rx; rfl
      | byt i => obtain ⟨t, rfl⟩ := rx; rfl
      | flt i => obtain ⟨t, rfl⟩ := rx; rfl
      | ref a => cases rx; rfl
      | ty n => cases (show v = Value.type n from rx); rfl
    exact wpAny_isNot_other hp hv ⟨.bl true, H, I, rfl, by simpa [e] using q⟩
theorem ro_isB {b : Bool} {f : Bool → Bool} : RO K (rIsB b f) (sIs b f) := fun F G H μ x y u w P Q S rx ry ⟨e, p⟩ q => by
  subst e
  refine ⟨rp_bl ry, ?_⟩
  have e : decide (x = .bl b) = isTruth b u := by
    cases u with
    | d z =>
      cases z with
      | bool c =>
        rw [rp_bl rx]
        show decide (V.bl c = V.bl b) = (c == b)
        by_cases h : c = b
        · subst h; simp
        · have : ¬ V.bl c = V.bl b := fun z => h (V.bl.inj z)
          simp [h]
      | none => rw [rp_non rx]; rfl
      | int i => rw [rp_int rx]; rfl
      | str i => rw [rp_str rx]; rfl
      | list l => obtain ⟨a, xs, rfl, _⟩ := rp_lst rx; rfl
      | tuple l => obtain ⟨a, xs, rfl, _⟩ := rp_tup rx; rfl
      | dict l => cases rx
    | r a => rw [show x = .ref a from rx]; rfl
  rw [e]
  exact q (.bl _) (.d (.bool _)) G H μ (Ext.refl G) S (Rp.bl _) p
theorem ro_isN : RO K (fun x y H Q => y = .non ∧ Q (.bl (decide (x = .non))) H) (sIsN id) := fun F G H μ x y u w P Q S rx ry ⟨e, p⟩ q => by
  subst e
  refine ⟨rp_non ry, ?_⟩
  have e : decide (x = .non) = isNon u := by
    cases u with
    | d z =>
      cases z with
      | bool c => rw [rp_bl rx]; rfl
      | none => rw [rp_non rx]; rfl
      | int i => rw [rp_int rx]; rfl
      | str i => rw [rp_str rx]; rfl
      | list l => obtain ⟨a, xs, rfl, _⟩ := rp_lst rx; rfl
      | tuple l => obtain ⟨a, xs, rfl, _⟩ := rp_tup rx; rfl
      | dict l => cases rx
    | r a => rw [show x = .ref a from rx]; rfl
  rw [e]
  exact q (.bl _) (.d (.bool _)) G H μ (Ext.refl G) S (Rp.bl _) p
theorem ro_notN : RO K (fun x y H Q => y = .non ∧ Q (.bl (!decide (x = .non))) H) (sIsN not) := fun F G H μ x y u w P Q S rx ry ⟨e, p⟩ q => by
  subst e
  refine ⟨rp_non ry, ?_⟩
  have e : decide (x = .non) = isNon u := by
    cases u with
    | d z =>
      cases z with
      | bool c => rw [rp_bl rx]; rfl
      | none => rw [rp_non rx]; rfl
      | int i => rw [rp_int rx]; rfl
      | str i => rw [rp_str rx]; rfl
      | list l => obtain ⟨a, xs, rfl, _⟩ := rp_lst rx; rfl
      | tuple l => obtain ⟨a, xs, rfl, _⟩ := rp_tup rx; rfl
      | dict l => cases rx
    | r a => rw [show x = .ref a from rx]; rfl
  rw [e]
  exact q (.bl _) (.d (.bool _)) G H μ (Ext.refl G) S (Rp.bl _) p
theorem rus_map_str {G : Hp} : ∀ {zs : List Str} {vs : List V}, Rus K G vs (zs.map fun y => U.d (.str y)) → vs = zs.map V.str
  | [], _, h => by cases h; rfl
  | z :: zs, _, h => by
    cases h with
    | cons h t => rw [rp_str h, rus_map_str t]; rfl
theorem rus_map_int {G : Hp} : ∀ {zs : List Int} {vs : List V}, Rus K G vs (zs.map fun y => U.d (.int y)) → vs = zs.map V.int
  | [], _, h => by cases h; rfl
  | z :: zs, _, h => by
    cases h with
    | cons h t => rw [rp_int h, rus_map_int t]; rfl
theorem inV_str (z : Str) : ∀ zs : List Str, inV (.str z) (zs.map V.str) = decide (z ∈ zs)
  | [] => rfl
  | y :: ys => by
    have ih := inV_str z ys
    unfold inV at ih ⊢
    rw [List.map_cons, List.any_cons, ih]
    show ((y == z) || decide (z ∈ ys)) = decide (z ∈ y :: ys)
    by_cases h : y = z
    · subst h; simp
    · have h2 : ¬ z = y := fun e => h e.symm
      simp [h, h2]
theorem inV_int (z : Int) : ∀ zs : List Int, inV (.int z) (zs.map V.int) = decide (z ∈ zs)
  | [] => rfl
  | y :: ys => by
    have ih := inV_int z ys
    unfold inV at ih ⊢
    rw [List.map_cons, List.any_cons, ih]
    show ((y == z) || decide (z ∈ ys)) = decide (z ∈ y :: ys)
    by_cases h : y = z
    · subst h; simp
    · have h2 : ¬ z = y := fun e => h e.symm
      simp [h, h2]
theorem flat_str : ∀ zs : List Str, (zs.map V.str).all flatV = true
  | [] => rfl
  | _ :: zs => flat_str zs
theorem flat_int : ∀ zs : List Int, (zs.map V.int).all flatV = true
  | [] => rfl
  | _ :: zs => flat_int zs
theorem ro_inS {neg : Bool} : RO K (rIn K neg) (sInS fun b => if neg then !b else b) := fun F G H μ x y u w P Q S rx ry ⟨z, zs, e1, h, p⟩ q => by
  subst e1
  obtain ⟨a, vs, rfl, hs, r⟩ := itemsU_ok S ry h
  rw [rus_map_str r] at hs
  rw [rp_str rx]
  refine ⟨a, _, rfl, hs, rfl, flat_str zs, ?_⟩
  rw [inV_str]
  exact q (.bl _) (.d (.bool _)) G H μ (Ext.refl G) S (Rp.bl _) p
theorem ro_inI {neg : Bool} : RO K (rIn K neg) (sInI fun b => if neg then !b else b) := fun F G H μ x y u w P Q S rx ry ⟨z, zs, e1, h, p⟩ q => by
  subst e1
  obtain ⟨a, vs, rfl, hs, r⟩ := itemsU_ok S ry h
  rw [rus_map_int r] at hs
  rw [rp_int rx]
  refine ⟨a, _, rfl, hs, rfl, flat_int zs, ?_⟩
  rw [inV_int]
  exact q (.bl _) (.d (.bool _)) G H μ (Ext.refl G) S (Rp.bl _) p
theorem atI_rus {G : Hp} {vs : List V} {us : List U} {i : Int} {z : U} (r : Rus K G vs us) (h : atI us i = some z) : ∃ v, atI vs i = some v ∧ Ru K G v z := by
  unfold atI at h ⊢
  rw [r.length]
  cases q : ixN us.length i with
  | none => rw [q] at h; cases h
  | some j =>
    rw [q] at h
    exact r.getU h
theorem ro_ix : RO K (rIx K) sIx := fun F G H μ x y u w P Q S rx ry ⟨i, z, e1, h, p⟩ q => by
  subst e1
  rw [rp_int ry]
  by_cases hs : ∃ t, u = .d (.str t)
  · obtain ⟨t, rfl⟩ := hs
    have h' : (if t.length ≤ sizeLine then (atI t.cps.toList i).map fun c => U.d (.str ⟨#[c]⟩) else none) = some z := h
    by_cases hz : t.length ≤ sizeLine
    · rw [if_pos hz] at h'
      cases hc : atI t.cps.toList i with
      | none => rw [hc] at h'; cases h'
      | some c =>
        rw [hc] at h'
        cases h'
        exact .inr (.inr ⟨t, i, c, rp_str rx, rfl, hz, hc, q (.str _) (.d (.str _)) G H μ (Ext.refl G) S (Rp.str _) p⟩)
    · rw [if_neg hz] at h'; cases h'
  · have h' : ((itemsU μ u).bind fun us => atI us i) = some z := by
      unfold ixU at h
      split at h
      · exact absurd ⟨_, rfl⟩ hs
      · exact h
    cases hi : itemsU μ u with
    | none => rw [hi] at h'; cases h'
    | some us =>
      rw [hi] at h'
      obtain ⟨a, vs, rfl, hq, r⟩ := itemsU_ok S rx hi
      obtain ⟨v, hv, rv⟩ := atI_rus r h'
      rcases hq with hq | hq
      · exact .inl ⟨a, vs, i, v, rfl, rfl, hq, hv, q _ _ G H μ (Ext.refl G) S rv p⟩
      · exact .inr (.inl ⟨a, vs, i, v, rfl, rfl, hq, hv, q _ _ G H μ (Ext.refl G) S rv p⟩)
theorem ro_catL : RO K (rCatW K) sCatL := fun F G H μ x y u w P Q S rx ry ⟨xs, ys, h1, h2, z, pp⟩ q => by
  obtain ⟨a, vs, rfl, k1, r1⟩ := listU_ok S rx h1
  obtain ⟨b, ws, rfl, k2, r2⟩ := listU_ok S ry h2
  have l1 := r1.length
  have l2 := r2.length
  rw [List.length_map] at l1 l2
  refine ⟨a, b, vs, ws, rfl, rfl, k1, k2, by rw [l1, l2]; exact z, fun p hp => ?_⟩
  obtain ⟨e, S'⟩ := S.newG (o := .lst (vs ++ ws)) hp
  refine q (.ref p) (.d (.list (xs ++ ys))) _ _ μ e S' (Rp.lst (SqL.of upd_same) ?_) pp
  have r3 : Rus K G (vs ++ ws) ((xs ++ ys).map U.d) := by
    rw [List.map_append]; exact r1.append r2
  exact (d_rus r3).mono e

theorem w_bin {op : Operator} {r : R2} {s : WR} (ho : OpR X (binaryOp op) r) (hr : RO X.K r s) (ha : WE X a ta wa) (hb : WE X b tb wb) : WE X (.BinOp a op b pos) (tOp r ta tb) (wOp s wa wb) := ⟨pe_op ho ha.pe hb.pe, re_op hr ha.re hb.re⟩
theorem w_cmp {op : CmpOp} {r : R2} {s : WR} (ho : OpR X (compareOp op) r) (hr : RO X.K r s) (ha : WE X a ta wa) (hb : WE X b tb wb) (hm : behindInMarks op b = false) : WE X (.Compare a [op] [b] pos) (tOp r ta tb) (wOp s wa wb) := ⟨pe_cmpR ho ha.pe hb.pe hm, re_op hr ha.re hb.re⟩
theorem w_ix (ha : WE X a ta wa) (hb : WE X b tb wb) (hs : PlainIx b := by exact fun _ _ => rfl) : WE X (.Subscript a b pos) (tOp (rIx X.K) ta tb) (wOp sIx wa wb) := ⟨pe_ix ix_seq ha.pe hb.pe hs, re_op ro_ix ha.re hb.re⟩
end
section
variable {X : Cx} {pos : Pos} {a b : Expr} {ta tb : TE} {wa wb : WX}
end
end L3

namespace L3
open PySem PySem.Spec PyProof.Rows L2

/-! ### tests, truths -/
def wB (w : WX) : WB := fun ρ μ P => w ρ μ fun x μ1 => ∃ c, x = .d (.bool c) ∧ P c μ1
def wAnd (a b : WB) : WB := fun ρ μ P => a ρ μ fun c μ1 => if c = true then b ρ μ1 P else P false μ1
def wOr (a b : WB) : WB := fun ρ μ P => a ρ μ fun c μ1 => if c = true then P true μ1 else b ρ μ1 P
def wNot (a : WB) : WB := fun ρ μ P => a ρ μ fun c μ1 => P (!c) μ1
def wAndV (a b : WX) : WX := fun ρ μ P => a ρ μ fun x μ1 => ∃ c, x = .d (.bool c) ∧ if c = true then b ρ μ1 P else P (.d (.bool false)) μ1
def wOrV (a b : WX) : WX := fun ρ μ P => a ρ μ fun x μ1 => ∃ c, x = .d (.bool c) ∧ if c = true then P (.d (.bool true)) μ1 else b ρ μ1 P
def wNotV (a : WX) : WX := fun ρ μ P => a ρ μ fun x μ1 => ∃ c, x = .d (.bool c) ∧ P (.d (.bool (!c))) μ1
def wIf (t : WB) (a b : WX) : WX := fun ρ μ P => t ρ μ fun c μ1 => if c = true then a ρ μ1 P else b ρ μ1 P
/-- the truth of a thing that may be read as a row -/
def wTruL (a : WX) : WB := fun ρ μ P => a ρ μ fun x μ1 => ∃ us, itemsU μ1 x = some us ∧ P (!us.isEmpty) μ1
section
variable {K : Fg} {X : Cx} {pos : Pos} {a b c : Expr} {rest : List Expr} {ta tb : TE} {wa wb : WX} {tc td : TT} {wc wd : WB}
theorem rt_B (h : RE K ta wa) : RT K (tB ta) (wB wa) := fun F G H μ σ ρ P Q S w q => h F G H μ σ ρ _ _ S w fun v u G1 H1 μ1 e1 S1 r1 ⟨c, e, p⟩ => by
  subst e
  exact ⟨c, rp_bl r1, q c G1 H1 μ1 e1 S1 p⟩
theorem w_val (h : WE X a ta wa) (he : ∀ whole, isTrue a X.env whole = (do let v ← whole; standAt a.pos; holding [v] (truthy v)) := by intro _; rfl) : WT X a (tB ta) (wB wa) := ⟨pt_val h.pe he, rt_B h.re⟩
theorem rt_and (h : RT K tc wc) (k : RT K td wd) : RT K (tAnd tc td) (wAnd wc wd) := fun F G H μ σ ρ P Q S w q => h F G H μ σ ρ _ _ S w fun c G1 H1 μ1 e1 S1 p => by
  cases c with
  | true => exact k F G1 H1 μ1 σ ρ P Q (S.mono e1 S1) p fun d G2 H2 μ2 e2 S2 p2 => q d G2 H2 μ2 (e1.trans e2) S2 p2
  | false => exact q false G1 H1 μ1 e1 S1 p
theorem rt_or (h : RT K tc wc) (k : RT K td wd) : RT K (tOr tc td) (wOr wc wd) := fun F G H μ σ ρ P Q S w q => h F G H μ σ ρ _ _ S w fun c G1 H1 μ1 e1 S1 p => by
  cases c with
  | false => exact k F G1 H1 μ1 σ ρ P Q (S.mono e1 S1) p fun d G2 H2 μ2 e2 S2 p2 => q d G2 H2 μ2 (e1.trans e2) S2 p2
  | true => exact q true G1 H1 μ1 e1 S1 p
theorem rt_not (h : RT K tc wc) : RT K (tNot tc) (wNot wc) := fun F G H μ σ ρ P Q S w q => h F G H μ σ ρ _ _ S w fun c G1 H1 μ1 e1 S1 p => q _ G1 H1 μ1 e1 S1 p
theorem w_and1 (h : WT X a tc wc) : WW X (.BoolOp .And [a] pos) tc wc := ⟨pw_and1 h.pt, h.rt⟩
theorem w_or1 (h : WT X a tc wc) : WW X (.BoolOp .Or [a] pos) tc wc := ⟨pw_or1 h.pt, h.rt⟩
theorem w_and (h : WT X a tc wc) (k : WW X (.BoolOp .And (b :: rest) pos) td wd) : WW X (.BoolOp .And (a :: b :: rest) pos) (tAnd tc td) (wAnd wc wd) := ⟨pw_and h.pt k.pw, rt_and h.rt k.rt⟩
theorem w_or (h : WT X a tc wc) (k : WW X (.BoolOp .Or (b :: rest) pos) td wd) : WW X (.BoolOp .Or (a :: b :: rest) pos) (tOr tc td) (wOr wc wd) := ⟨pw_or h.pt k.pw, rt_or h.rt k.rt⟩
theorem w_ww (h : WW X a tc wc) : WT X a tc wc := ⟨h.pw.pt, h.rt⟩
theorem w_nott (h : WT X a tc wc) : WT X (.UnaryOp .Not a pos) (tNot tc) (wNot wc) := ⟨pt_not h.pt, rt_not h.rt⟩
theorem w_one {op} (h : WE X a ta wa) : WE X (.BoolOp op [a] pos) ta wa := ⟨pe_one h.pe, h.re⟩
theorem re_andV (h : RE K ta wa) (k : RE K tb wb) : RE K (tAndV ta tb) (wAndV wa wb) := fun F G H μ σ ρ P Q S w q => h F G H μ σ ρ _ _ S w fun v u G1 H1 μ1 e1 S1 r1 ⟨c, e, p⟩ => by
  subst e
  refine ⟨c, rp_bl r1, ?_⟩
  cases c with
  | true => exact k F G1 H1 μ1 σ ρ P Q (S.mono e1 S1) p fun v u G2 H2 μ2 e2 S2 r2 p2 => q v u G2 H2 μ2 (e1.trans e2) S2 r2 p2
  | false => exact q (.bl false) (.d (.bool false)) G1 H1 μ1 e1 S1 (Rp.bl _) p
theorem re_orV (h : RE K ta wa) (k : RE K tb wb) : RE K (tOrV ta tb) (wOrV wa wb) := fun F G H μ σ ρ P Q S w q => h F G H μ σ ρ _ _ S w fun v u G1 H1 μ1 e1 S1 r1 ⟨c, e, p⟩ => by
  subst e
  refine ⟨c, rp_bl r1, ?_⟩
  cases c with
  | false => exact k F G1 H1 μ1 σ ρ P Q (S.mono e1 S1) p fun v u G2 H2 μ2 e2 S2 r2 p2 => q v u G2 H2 μ2 (e1.trans e2) S2 r2 p2
  | true => exact q (.bl true) (.d (.bool true)) G1 H1 μ1 e1 S1 (Rp.bl _) p
theorem re_notV (h : RE K ta wa) : RE K (tNotV ta) (wNotV wa) := fun F G H μ σ ρ P Q S w q => h F G H μ σ ρ _ _ S w fun v u G1 H1 μ1 e1 S1 r1 ⟨c, e, p⟩ => by
  subst e
  exact ⟨c, rp_bl r1, q (.bl (!c)) (.d (.bool (!c))) G1 H1 μ1 e1 S1 (Rp.bl _) p⟩
theorem w_andV (h : WE X a ta wa) (k : WE X (.BoolOp .And (b :: rest) pos) tb wb) : WE X (.BoolOp .And (a :: b :: rest) pos) (tAndV ta tb) (wAndV wa wb) := ⟨pe_and h.pe k.pe, re_andV h.re k.re⟩
theorem w_orV (h : WE X a ta wa) (k : WE X (.BoolOp .Or (b :: rest) pos) tb wb) : WE X (.BoolOp .Or (a :: b :: rest) pos) (tOrV ta tb) (wOrV wa wb) := ⟨pe_or h.pe k.pe, re_orV h.re k.re⟩
theorem w_notV (h : WE X a ta wa) : WE X (.UnaryOp .Not a pos) (tNotV ta) (wNotV wa) := ⟨pe_not h.pe, re_notV h.re⟩
theorem re_if (h : RT K tc wc) (k : RE K ta wa) (l : RE K tb wb) : RE K (tIf tc ta tb) (wIf wc wa wb) := fun F G H μ σ ρ P Q S w q => h F G H μ σ ρ _ _ S w fun c G1 H1 μ1 e1 S1 p => by
  cases c with
  | true => exact k F G1 H1 μ1 σ ρ P Q (S.mono e1 S1) p fun v u G2 H2 μ2 e2 S2 r2 p2 => q v u G2 H2 μ2 (e1.trans e2) S2 r2 p2
  | false => exact l F G1 H1 μ1 σ ρ P Q (S.mono e1 S1) p fun v u G2 H2 μ2 e2 S2 r2 p2 => q v u G2 H2 μ2 (e1.trans e2) S2 r2 p2
theorem w_if (h : WT X c tc wc) (k : WE X a ta wa) (l : WE X b tb wb) : WE X (.IfExp c a b pos) (tIf tc ta tb) (wIf wc wa wb) := ⟨pe_ifExp h.pt k.pe l.pe, re_if h.rt k.re l.re⟩
theorem isEmpty_len {α β : Type} {xs : List α} {ys : List β} (h : xs.length = ys.length) : xs.isEmpty = ys.isEmpty := by
  cases xs <;> cases ys <;> first | rfl | cases h
theorem rt_truL (h : RE K ta wa) : RT K (fun σ H Q => ta σ H fun x H' => ∃ k, TruV K x H' k ∧ Q k H') (wTruL wa) := fun F G H μ σ ρ P Q S w q => h F G H μ σ ρ _ _ S w fun v u G1 H1 μ1 e1 S1 r1 ⟨us, hi, p⟩ => by
  obtain ⟨x, vs, rfl, hs, r⟩ := itemsU_ok S1 r1 hi
  refine ⟨!us.isEmpty, ?_, q _ G1 H1 μ1 e1 S1 p⟩
  rcases hs with hs | hs
  · exact .inl ⟨vs, hs, by rw [isEmpty_len r.length]⟩
  · exact .inr (.inl ⟨vs, hs, by rw [isEmpty_len r.length]⟩)
theorem w_truL (h : WE X a ta wa) (he : ∀ whole, isTrue a X.env whole = (do let v ← whole; standAt a.pos; holding [v] (truthy v)) := by intro _; rfl) : WT X a (fun σ H Q => ta σ H fun x H' => ∃ k, TruV X.K x H' k ∧ Q k H') (wTruL wa) := ⟨pt_truth h.pe he, rt_truL h.re⟩
end

/-! ### argument rows, displays -/
def wNil : WL := fun _ μ P => P [] μ
def wCons (a : WX) (r : WL) : WL := fun ρ μ P => a ρ μ fun x μ1 => r ρ μ1 fun xs μ2 => P (x :: xs) μ2
def wTup (a : WL) : WX := fun ρ μ P => a ρ μ fun us μ1 => ∃ ds : List PyData, us = ds.map U.d ∧ ds.length ≤ sizeLine ∧ P (.d (.tuple ds)) μ1
def wLst (a : WL) : WX := fun ρ μ P => a ρ μ fun us μ1 => ∃ ds : List PyData, us = ds.map U.d ∧ ds.length ≤ sizeLine ∧ P (.d (.list ds)) μ1
def wLstM (a : WL) : WX := fun ρ μ P => a ρ μ fun us μ1 => us.length ≤ sizeLine ∧ ∀ p, μ1 p = none → P (.r p) (put μ1 p (.lst us))
section
variable {K : Fg} {X : Cx} {pos : Pos} {e : Expr} {es : List Expr} {te : TE} {we : WX} {t : TA} {w : WL}
theorem ra_nil : RA K tNil wNil := fun F G H μ σ ρ P Q S w q => q [] [] G H μ (Ext.refl G) S.st .nil w
theorem ra_cons (h : RE K te we) (k : RA K t w) : RA K (tCons te t) (wCons we w) := fun F G H μ σ ρ P Q S x q => h F G H μ σ ρ _ _ S x fun v u G1 H1 μ1 e1 S1 r1 p =>
  k F G1 H1 μ1 σ ρ _ _ (S.mono e1 S1) p fun vs us G2 H2 μ2 e2 S2 r2 p2 => q (v :: vs) (u :: us) G2 H2 μ2 (e1.trans e2) S2 (.cons (r1.mono e2) r2) p2
theorem w_nil : WAr X [] tNil wNil := ⟨pa_nil, ra_nil⟩
theorem w_cons (h : WE X e te we) (k : WAr X es t w) (hs : starEach (e :: es) X.env = (false, eval e X.env) :: starEach es X.env := by rfl) : WAr X (e :: es) (tCons te t) (wCons we w) := ⟨pa_cons h.pe k.pa hs, ra_cons h.re k.ra⟩
theorem re_tup (h : RA K t w) : RE K (tTupX t) (wTup w) := fun F G H μ σ ρ P Q S x q => h F G H μ σ ρ _ _ S x fun vs us G1 H1 μ1 e1 S1 r1 ⟨ds, e, z, p⟩ => by
  subst e
  have hl := r1.length
  rw [List.length_map] at hl
  refine ⟨by rw [hl]; exact z, fun a o ha to => ?_⟩
  obtain ⟨e2, S2⟩ := S1.newG (o := .frz o (.tup vs)) ha
  exact q (.ref a) (.d (.tuple ds)) _ _ μ1 (e1.trans e2) S2 (Rp.tup (.new to) ((d_rus r1).mono e2)) p
theorem re_lst (h : RA K t w) : RE K (tLst t) (wLst w) := fun F G H μ σ ρ P Q S x q => h F G H μ σ ρ _ _ S x fun vs us G1 H1 μ1 e1 S1 r1 ⟨ds, e, z, p⟩ => by
  subst e
  have hl := r1.length
  rw [List.length_map] at hl
  refine ⟨by rw [hl]; exact z, fun a ha => ?_⟩
  obtain ⟨e2, S2⟩ := S1.newG (o := .lst vs) ha
  exact q (.ref a) (.d (.list ds)) _ _ μ1 (e1.trans e2) S2 (Rp.lst (SqL.of upd_same) ((d_rus r1).mono e2)) p
theorem re_lstM (h : RA K t w) : RE K (tLst t) (wLstM w) := fun F G H μ σ ρ P Q S x q => h F G H μ σ ρ _ _ S x fun vs us G1 H1 μ1 e1 S1 r1 ⟨z, p⟩ => by
  refine ⟨by rw [r1.length]; exact z, fun a ha => ?_⟩
  exact q (.ref a) (.r a) G1 _ _ e1 (S1.newM (m := .lst us) ha ⟨vs, upd_same, r1⟩) rfl (p a (S1.mnone ha))
theorem w_tup {x1} (h : WAr X es t w) : WE X (.Tuple es x1 pos) (tTupX t) (wTup w) := ⟨pe_tupX h.pa, re_tup h.ra⟩
theorem w_lst (h : WAr X es t w) : WE X (.List es pos) (tLst t) (wLst w) := ⟨pe_lst h.pa, re_lst h.ra⟩
theorem w_lstM (h : WAr X es t w) : WE X (.List es pos) (tLst t) (wLstM w) := ⟨pe_lst h.pa, re_lstM h.ra⟩
end

/-! ### what a def is worth, calls -/
abbrev WF := List U → Mu → XP → Prop
def sp3 (K : Fg) (w : WF) : Sp := fun vs H Q _ => ∃ (us : List U) (F G : Hp) (μ : Mu) (P : XP), St3 K F G H μ ∧ Rus K G vs us ∧ w us μ P ∧
  ∀ v u G' H' μ', Ext G G' → St3 K F G' H' μ' → Ru K G' v u → P u μ' → Q v H'
def wCall (s : WF) (w : WL) : WX := fun ρ μ P => w ρ μ fun us μ1 => s us μ1 P
section
variable {K : Fg} {X : Cx} {pos p : Pos} {e : Expr} {es : List Expr} {t : TA} {w : WL} {s : WF} {k j : Nat} {x : Str}
theorem re_call {E : XK} (h : RA K t w) : RE K (tCall (sp3 K s) [] E t) (wCall s w) := fun F G H μ σ ρ P Q S x q => h F G H μ σ ρ _ _ S x fun vs us G1 H1 μ1 e1 S1 r1 p =>
  ⟨us, F, G1, μ1, P, S1, by rw [List.append_nil]; exact r1, p, fun v u G2 H2 μ2 e2 S2 r2 p2 => q v u G2 H2 μ2 (e1.trans e2) S2 r2 p2⟩
theorem w_call (c : C8.Cal X.prog X.w X.K X.mg X.base k x (sp3 X.K s) []) (hr : Room j X.A) (hk : k ≤ j) (hg : Gl X x) (ha : WAr X (e :: es) t w)
    (hdb : (x == ("__debug__" : Str)) = false := by decide) (he : starEach (e :: es) X.env = (false, eval e X.env) :: starEach es X.env := by rfl) (hpl : (backTo pos (starEach es X.env)).any (·.1) = false := by rfl) :
    WE X (.Call (.Name x p) (e :: es) [] pos) (tCall (sp3 X.K s) [] C8.E0 t) (wCall s w) := ⟨C8.pe_c c hr hk hg ha.pa hdb he hpl, re_call ha.ra⟩
end

/-! ### built-in functions by values -/
abbrev WQ := List U → Mu → XP → Prop
def RQ (K : Fg) (r : List V → Hp → VK → Prop) (s : WQ) : Prop := ∀ (F G H : Hp) (μ : Mu) (vs : List V) (us : List U) (P : XP) (Q : VK), St3 K F G H μ → Rus K G vs us → s us μ P →
  (∀ v u' G' H' μ', Ext G G' → St3 K F G' H' μ' → Ru K G' v u' → P u' μ' → Q v H') → r vs H Q
def wQ (s : WQ) (w : WL) : WX := fun ρ μ P => w ρ μ fun us μ1 => s us μ1 P
def qLen : WQ := fun us μ P => ∃ u ws, us = [u] ∧ itemsU μ u = some ws ∧ P (.d (.int (ws.length : Int))) μ
def qLenS : WQ := fun us μ P => ∃ z : Str, us = [.d (.str z)] ∧ z.length ≤ sizeLine ∧ P (.d (.int (z.length : Int))) μ
def qInt : WQ := fun us μ P => ∃ i : Int, us = [.d (.int i)] ∧ P (.d (.int i)) μ
def qAbs : WQ := fun us μ P => ∃ i : Int, us = [.d (.int i)] ∧ P (.d (.int (if i < 0 then -i else i))) μ
def qStr : WQ := fun us μ P => ∃ i : Int, us = [.d (.int i)] ∧ i.natAbs.log2 < 1920 ∧ P (.d (.str (toString i))) μ
def qMax2 : WQ := fun us μ P => ∃ i j : Int, us = [.d (.int i), .d (.int j)] ∧ P (.d (.int (if j > i then j else i))) μ
def qMin2 : WQ := fun us μ P => ∃ i j : Int, us = [.d (.int i), .d (.int j)] ∧ P (.d (.int (if j < i then j else i))) μ
def qSortS : WQ := fun us μ P => ∃ (u : U) (xs : List Str), us = [u] ∧ listU μ u = some (xs.map fun z => U.d (.str z)) ∧ xs.length < 64 ∧ ∀ ys : List Str, ys.Perm xs → sortedS ys = true → P (.d (.list (ys.map .str))) μ
def qList : WQ := fun us μ P => ∃ (u : U) (ds : List PyData), us = [u] ∧ itemsU μ u = some (ds.map U.d) ∧ P (.d (.list ds)) μ
def qListM : WQ := fun us μ P => ∃ (u : U) (ws : List U), us = [u] ∧ itemsU μ u = some ws ∧ ∀ p, μ p = none → P (.r p) (put μ p (.lst ws))
def qTuple : WQ := fun us μ P => ∃ (u : U) (ds : List PyData), us = [u] ∧ itemsU μ u = some (ds.map U.d) ∧ P (.d (.tuple ds)) μ
def tyU : U → String
  | .d .none => "NoneType"
  | .d (.bool _) => "bool"
  | .d (.int _) => "int"
  | .d (.str _) => "str"
  | .d (.tuple _) => "tuple"
  | .d (.list _) => "list"
  | _ => "other"
def tyOk : U → Bool
  | .d .none => true
  | .d (.bool _) => true
  | .d (.int _) => true
  | .d (.str _) => true
  | .d (.tuple _) => true
  | .d (.list _) => true
  | _ => false
section
variable {K : Fg} {X : Cx} {pos p : Pos} {e : Expr} {es : List Expr} {t : TA} {w : WL} {s : WQ} {x : Str} {r : List V → Hp → VK → Prop}
theorem re_Q (hr : RQ K r s) (h : RA K t w) : RE K (tCB r t) (wQ s w) := fun F G H μ σ ρ P Q S x q => h F G H μ σ ρ _ _ S x fun vs us G1 H1 μ1 e1 S1 r1 p =>
  hr F G1 H1 μ1 vs us P Q S1 r1 p fun v u G2 H2 μ2 e2 S2 r2 p2 => q v u G2 H2 μ2 (e1.trans e2) S2 r2 p2
theorem w_qb {id : String} (hc : CallR X (.builtin id) r) (hr : RQ X.K r s) (hg : Gl X x) (hm : X.mg x = none) (hv : bootBuiltins x = some (.builtin id)) (ha : WAr X (e :: es) t w) (hn : x ≠ "__name__" := by decide) (hdb : (x == ("__debug__" : Str)) = false := by decide)
    (he : starEach (e :: es) X.env = (false, eval e X.env) :: starEach es X.env := by rfl) (hpl : (backTo pos (starEach es X.env)).any (·.1) = false := by rfl) : WE X (.Call (.Name x p) (e :: es) [] pos) (tCB r t) (wQ s w) := ⟨pe_callB hc hg hm hv ha.pa hn hdb he hpl, re_Q hr ha.ra⟩
theorem w_qt {T : String} (hc : CallR X (.type T) r) (hr : RQ X.K r s) (hg : Gl X x) (hm : X.mg x = none) (hv : bootBuiltins x = some (.type T)) (ha : WAr X (e :: es) t w) (hn : x ≠ "__name__" := by decide) (hdb : (x == ("__debug__" : Str)) = false := by decide)
    (he : starEach (e :: es) X.env = (false, eval e X.env) :: starEach es X.env := by rfl) (hpl : (backTo pos (starEach es X.env)).any (·.1) = false := by rfl) : WE X (.Call (.Name x p) (e :: es) [] pos) (tCB r t) (wQ s w) := ⟨pe_callTy hc hg hm hv ha.pa hn hdb he hpl, re_Q hr ha.ra⟩
theorem rus1 {G : Hp} {vs : List V} {u : U} (h : Rus K G vs [u]) : ∃ v, vs = [v] ∧ Ru K G v u := by
  cases h with
  | cons h t => cases t; exact ⟨_, rfl, h⟩
theorem rus2 {G : Hp} {vs : List V} {u w : U} (h : Rus K G vs [u, w]) : ∃ v x, vs = [v, x] ∧ Ru K G v u ∧ Ru K G x w := by
  cases h with
  | cons h t =>
    obtain ⟨x, rfl, h2⟩ := rus1 t
    exact ⟨_, _, rfl, h, h2⟩
theorem rq_len : RQ K (fun xs H Q => ∃ p ys, xs = [.ref p] ∧ (SqL K H p ys ∨ SqT K H p ys) ∧ Q (.int ys.length) H) qLen := fun F G H μ vs us P Q S r ⟨u, ws, e, hi, p⟩ q => by
  subst e
  obtain ⟨v, rfl, q1⟩ := rus1 r
  obtain ⟨a, ys, rfl, hs, r2⟩ := itemsU_ok S q1 hi
  refine ⟨a, ys, rfl, hs, ?_⟩
  rw [r2.length]
  exact q _ (.d (.int _)) G H μ (Ext.refl G) S (Rp.int _) p
theorem rq_lenS : RQ K (fun xs H Q => ∃ z, xs = [.str z] ∧ z.length ≤ sizeLine ∧ Q (.int z.length) H) qLenS := fun F G H μ vs us P Q S r ⟨z, e, hz, p⟩ q => by
  subst e
  obtain ⟨v, rfl, q1⟩ := rus1 r
  rw [rp_str q1]
  exact ⟨z, rfl, hz, q _ (.d (.int _)) G H μ (Ext.refl G) S (Rp.int _) p⟩
theorem rq_int : RQ K (fun xs H Q => (∃ i, xs = [.int i] ∧ Q (.int i) H) ∨ ∃ k, xs = [.bl k] ∧ Q (.int (if k then 1 else 0)) H) qInt := fun F G H μ vs us P Q S r ⟨z, e, p⟩ q => by
  subst e
  obtain ⟨v, rfl, q1⟩ := rus1 r
  rw [rp_int q1]
  exact .inl ⟨z, rfl, q _ (.d (.int _)) G H μ (Ext.refl G) S (Rp.int _) p⟩
theorem rq_abs : RQ K (fun xs H Q => ∃ i, xs = [.int i] ∧ Q (.int (if i < 0 then -i else i)) H) qAbs := fun F G H μ vs us P Q S r ⟨z, e, p⟩ q => by
  subst e
  obtain ⟨v, rfl, q1⟩ := rus1 r
  rw [rp_int q1]
  exact ⟨z, rfl, q _ (.d (.int _)) G H μ (Ext.refl G) S (Rp.int _) p⟩
theorem rq_str : RQ K (fun xs H Q => ∃ i, xs = [.int i] ∧ i.natAbs.log2 < 1920 ∧ Q (.str (toString i)) H) qStr := fun F G H μ vs us P Q S r ⟨z, e, hz, p⟩ q => by
  subst e
  obtain ⟨v, rfl, q1⟩ := rus1 r
  rw [rp_int q1]
  exact ⟨z, rfl, hz, q _ (.d (.str _)) G H μ (Ext.refl G) S (Rp.str _) p⟩
theorem rq_max2 : RQ K (fun xs H Q => ∃ i j, xs = [.int i, .int j] ∧ Q (.int (if j > i then j else i)) H) qMax2 := fun F G H μ vs us P Q S r ⟨i, j, e, p⟩ q => by
  subst e
  obtain ⟨v, x, rfl, q1, q2⟩ := rus2 r
  rw [rp_int q1, rp_int q2]
  exact ⟨i, j, rfl, q _ (.d (.int _)) G H μ (Ext.refl G) S (Rp.int _) p⟩
theorem rq_min2 : RQ K (fun xs H Q => ∃ i j, xs = [.int i, .int j] ∧ Q (.int (if j < i then j else i)) H) qMin2 := fun F G H μ vs us P Q S r ⟨i, j, e, p⟩ q => by
  subst e
  obtain ⟨v, x, rfl, q1, q2⟩ := rus2 r
  rw [rp_int q1, rp_int q2]
  exact ⟨i, j, rfl, q _ (.d (.int _)) G H μ (Ext.refl G) S (Rp.int _) p⟩
theorem rq_sortS : RQ K (rSortedS K) qSortS := fun F G H μ vs us P Q S r ⟨u, xs, e, hi, hz, p⟩ q => by
  subst e
  obtain ⟨v, rfl, q1⟩ := rus1 r
  obtain ⟨a, ys, rfl, hs, r2⟩ := listU_ok S q1 hi
  rw [rus_map_str r2] at hs
  refine ⟨a, xs, rfl, hs, hz, fun zs l hp hso hl => ?_⟩
  obtain ⟨e2, S2⟩ := S.newG (o := .lst (zs.map V.str)) hl
  exact q (.ref l) (.d (.list (zs.map .str))) _ _ μ e2 S2 (Rp.lst (SqL.of upd_same) (rps_strs' zs)) (p zs hp hso)
theorem rq_list : RQ K (fun xs H Q => ∃ p ys, xs = [.ref p] ∧ (SqL K H p ys ∨ SqT K H p ys) ∧ ∀ l, H l = none → Q (.ref l) (upd H l (.lst ys))) qList := fun F G H μ vs us P Q S r ⟨u, ds, e, hi, p⟩ q => by
  subst e
  obtain ⟨v, rfl, q1⟩ := rus1 r
  obtain ⟨a, ys, rfl, hs, r2⟩ := itemsU_ok S q1 hi
  refine ⟨a, ys, rfl, hs, fun l hl => ?_⟩
  obtain ⟨e2, S2⟩ := S.newG (o := .lst ys) hl
  exact q (.ref l) (.d (.list ds)) _ _ μ e2 S2 (Rp.lst (SqL.of upd_same) ((d_rus r2).mono e2)) p
theorem rq_listM : RQ K (fun xs H Q => ∃ p ys, xs = [.ref p] ∧ (SqL K H p ys ∨ SqT K H p ys) ∧ ∀ l, H l = none → Q (.ref l) (upd H l (.lst ys))) qListM := fun F G H μ vs us P Q S r ⟨u, ws, e, hi, p⟩ q => by
  subst e
  obtain ⟨v, rfl, q1⟩ := rus1 r
  obtain ⟨a, ys, rfl, hs, r2⟩ := itemsU_ok S q1 hi
  exact ⟨a, ys, rfl, hs, fun l hl => q (.ref l) (.r l) G _ _ (Ext.refl G) (S.newM (m := .lst ws) hl ⟨ys, upd_same, r2⟩) rfl (p l (S.mnone hl))⟩
theorem d_inj : ∀ {l m : List PyData}, l.map U.d = m.map U.d → l = m
  | [], [], _ => rfl
  | [], _ :: _, h => by cases h
  | _ :: _, [], h => by cases h
  | x :: l, y :: m, h => by
    rw [List.map_cons, List.map_cons] at h
    injection h with h1 h2
    injection h1 with h1
    rw [h1, d_inj h2]
theorem rq_tuple : RQ K (fun xs H Q => ∃ p ys, xs = [.ref p] ∧ ((SqL K H p ys ∧ ∀ l o, H l = none → TObj o → Q (.ref l) (upd H l (.frz o (.tup ys)))) ∨ (SqT K H p ys ∧ Q (.ref p) H))) qTuple := fun F G H μ vs us P Q S r ⟨u, ds, e, hi, p⟩ q => by
  subst e
  obtain ⟨v, rfl, q1⟩ := rus1 r
  by_cases ht : ∃ l, u = .d (.tuple l)
  · obtain ⟨l, rfl⟩ := ht
    obtain ⟨a, xs, rfl, h1, h2⟩ := rp_tup q1
    have e : l.map U.d = ds.map U.d := Option.some.inj hi
    have e2 : l = ds := d_inj e
    subst e2
    exact ⟨a, xs, rfl, .inr ⟨h1.sq S.sub, q (.ref a) (.d (.tuple l)) G H μ (Ext.refl G) S q1 p⟩⟩
  · have hl : listU μ u = some (ds.map U.d) := by
      cases u with
      | d z =>
        cases z with
        | list l => exact hi
        | tuple l => exact absurd ⟨_, rfl⟩ ht
        | _ => cases hi
      | r a => exact hi
    obtain ⟨a, ys, rfl, hs, r2⟩ := listU_ok S q1 hl
    refine ⟨a, ys, rfl, .inl ⟨hs, fun l o hl to => ?_⟩⟩
    obtain ⟨e2, S2⟩ := S.newG (o := .frz o (.tup ys)) hl
    exact q (.ref l) (.d (.tuple ds)) _ _ μ e2 S2 (Rp.tup (.new to) ((d_rus r2).mono e2)) p
/-- isinstance(e, T), T the name of a built-in class -/
def wIsi (T : String) (w : WX) : WX := fun ρ μ P => w ρ μ fun u μ1 => tyOk u = true ∧ ∃ b, kitB (tyU u) T = some b ∧ P (.d (.bool b)) μ1
def tIsi (K : Fg) (T : String) (te : TE) : TE := tCB (rIsi K) (tCons te (tCons (tC (.ty T)) tNil))
theorem tyX_ok {G H : Hp} {v : V} {u : U} (e : Ext G H) (r : Ru K G v u) (h : tyOk u = true) : TyX K H v (.type (tyU u)) := by
  cases u with
  | r a => cases h
  | d z =>
    cases z with
    | none => rw [rp_non r]; exact .base .non
    | bool b => rw [rp_bl r]; exact .base (.bl b)
    | int b => rw [rp_int r]; exact .base (.int b)
    | str b => rw [rp_str r]; exact .base (.str b)
    | list l =>
      obtain ⟨a, xs, rfl, h1, _⟩ := rp_lst r
      rcases sqlE e h1 with (h1 | ⟨o, h1⟩) | ⟨o, its, n, h1, h2, _⟩
      · exact .base (.lst h1)
      · exact .base (.frz h1)
      · exact .kList h1 h2
    | tuple l =>
      obtain ⟨a, xs, rfl, h1, _⟩ := rp_tup r
      rcases h1 with ⟨o, _, h1⟩ | ⟨o, its, n, h1, h2, _⟩
      · exact .fTuple (e _ _ h1)
      · exact .kTuple h1 h2.1
    | dict l => cases h
theorem w_isi {T : String} {y : Str} {te : TE} {we : WX} {py : Pos} (hg : Gl X x) (hm : X.mg x = none) (hv : bootBuiltins x = some (.builtin "isinstance")) (hgy : Gl X y) (hmy : X.mg y = none) (hvy : bootBuiltins y = some (.type T)) (h : WE X e te we)
    (hn : x ≠ "__name__" := by decide) (hdb : (x == ("__debug__" : Str)) = false := by decide) (hny : y ≠ "__name__" := by decide) (hdy : (y == ("__debug__" : Str)) = false := by decide)
    (he : starEach [e, .Name y py] X.env = (false, eval e X.env) :: starEach [.Name y py] X.env := by rfl) (hpl : (backTo pos (starEach [.Name y py] X.env)).any (·.1) = false := by rfl)
    (he2 : starEach [.Name y py] X.env = (false, eval (.Name y py) X.env) :: starEach [] X.env := by rfl) : WE X (.Call (.Name x p) [e, .Name y py] [] pos) (tIsi X.K T te) (wIsi T we) :=
  ⟨pe_callB call_isi hg hm hv (pa_cons h.pe (pa_cons (pe_bltn hgy hmy hvy rfl hny hdy) pa_nil he2) he) hn hdb he hpl, fun F G H μ σ ρ P Q S x q => h.re F G H μ σ ρ _ _ S x fun v u G1 H1 μ1 e1 S1 r1 ⟨hk, b, hb, pp⟩ =>
    ⟨v, .ty T, .type (tyU u), .type T, b, rfl, .ty T, tyX_ok S1.sub r1 hk, kit_ty hb, q (.bl b) (.d (.bool b)) G1 H1 μ1 e1 S1 (Rp.bl b) pp⟩⟩
end
end L3

namespace L3
open PySem PySem.Spec PyProof.Rows L2

/-! ### methods of lists, join -/
abbrev WM := U → List U → Mu → XP → Prop
def RM (K : Fg) (r : V → List V → Hp → VK → Prop) (s : WM) : Prop := ∀ (F G H : Hp) (μ : Mu) (x : V) (vs : List V) (u : U) (us : List U) (P : XP) (Q : VK), St3 K F G H μ → Ru K G x u → Rus K G vs us → s u us μ P →
  (∀ v u' G' H' μ', Ext G G' → St3 K F G' H' μ' → Ru K G' v u' → P u' μ' → Q v H') → r x vs H Q
def isL (μ : Mu) (u : U) : Prop := ∃ us, listU μ u = some us
def wML (s : WM) (o : WX) (w : WL) : WX := fun ρ μ P => o ρ μ fun u μ1 => isL μ1 u ∧ w ρ μ1 fun us μ2 => s u us μ2 P
def mAppend : WM := fun u vs μ P => ∃ a us y, u = .r a ∧ vs = [y] ∧ μ a = some (.lst us) ∧ us.length < sizeLine ∧ P (.d .none) (put μ a (.lst (us ++ [y])))
def mPop : WM := fun u vs μ P => ∃ a us y, u = .r a ∧ vs = [] ∧ μ a = some (.lst us) ∧ us[us.length - 1]? = some y ∧ P y (put μ a (.lst us.dropLast))
def mPopAt : WM := fun u vs μ P => ∃ a us i k y, u = .r a ∧ vs = [.d (.int i)] ∧ μ a = some (.lst us) ∧ -(2 ^ 63) ≤ i ∧ i < 2 ^ 63 ∧ seqIndex? i us.length = some k ∧ us[k]? = some y ∧ P y (put μ a (.lst (us.eraseIdx k)))
def mExtendT : WM := fun u vs μ P => ∃ (a : Addr) (us : List U) (ds : List PyData), u = .r a ∧ vs = [.d (.tuple ds)] ∧ μ a = some (.lst us) ∧ us.length + ds.length ≤ sizeLine ∧ P (.d .none) (put μ a (.lst (us ++ ds.map .d)))
def mReverse : WM := fun u vs μ P => ∃ a us, u = .r a ∧ vs = [] ∧ μ a = some (.lst us) ∧ P (.d .none) (put μ a (.lst us.reverse))
section
variable {K : Fg} {X : Cx} {pos apos cpos p : Pos} {o e : Expr} {es : List Expr} {to te : TE} {wo we : WX} {t : TA} {w : WL} {name : Str} {id : String} {r : V → List V → Hp → VK → Prop} {s : WM}
theorem isL_ty {F G H : Hp} {μ : Mu} {v : V} {u : U} (S : St3 K F G H μ) (q : Ru K G v u) (h : isL μ u) : tyV K "list" v H := by
  obtain ⟨us, h⟩ := h
  obtain ⟨a, vs, rfl, h1, _⟩ := listU_ok S q h
  exact .inl ⟨rfl, vs, h1⟩
theorem re_bm (hr : RM K r s) (ho : RE K to wo) (ha : RA K t w) : RE K (tBM K "list" r to t) (wML s wo w) := fun F G H μ σ ρ P Q S x q => ho F G H μ σ ρ _ _ S x fun v u G1 H1 μ1 e1 S1 r1 ⟨hl, p⟩ =>
  ⟨isL_ty S1 r1 hl, ha F G1 H1 μ1 σ ρ _ _ (S.mono e1 S1) p fun vs us G2 H2 μ2 e2 S2 r2 p2 => hr F G2 H2 μ2 v vs u us P Q S2 (r1.mono e2) r2 p2 fun v u G3 H3 μ3 e3 S3 r3 p3 => q v u G3 H3 μ3 ((e1.trans e2).trans e3) S3 r3 p3⟩
theorem re_bm0 (hr : RM K r s) (ho : RE K to wo) : RE K (tBM0 K "list" r to) (wML s wo wNil) := fun F G H μ σ ρ P Q S x q => ho F G H μ σ ρ _ _ S x fun v u G1 H1 μ1 e1 S1 r1 ⟨hl, p⟩ =>
  ⟨isL_ty S1 r1 hl, hr F G1 H1 μ1 v [] u [] P Q S1 r1 .nil p fun v u G3 H3 μ3 e3 S3 r3 p3 => q v u G3 H3 μ3 (e1.trans e3) S3 r3 p3⟩
theorem w_bm (slot : Slot "list" name id) (hty : typeOf (.builtin id) = pure (.type "method_descriptor")) (hm : MtR X id r) (hr : RM X.K r s) (ho : WE X o to wo) (ha : WAr X (e :: es) t w)
    (hbase : attributeBase o name X.env (eval o X.env) = eval o X.env := by rfl)
    (hfew : ((backTo cpos (starEach (e :: es) X.env)).all (fun x => !x.1) && (backToKw cpos (keywordEach [] X.env)).all (fun x => x.1.isSome)
      && decide ((e :: es).length + ([] : List Keyword).length + (if ([] : List Keyword).isEmpty then 0 else 1) < 30)) = true := by rfl)
    (hline : (apos.endLine == cpos.line) = true := by rfl) (hs : starEach (e :: es) X.env = (false, eval e X.env) :: starEach es X.env := by rfl) (hplain : (backTo cpos (starEach es X.env)).any (·.1) = false := by rfl) :
    WE X (.Call (.Attribute o name apos) (e :: es) [] cpos) (tBM X.K "list" r to t) (wML s wo w) := ⟨pe_bm PySem.F.plainAttrs_list slot hty hm ho.pe ha.pa hbase hfew hline hs hplain, re_bm hr ho.re ha.ra⟩
theorem w_bm0 (slot : Slot "list" name id) (hty : typeOf (.builtin id) = pure (.type "method_descriptor")) (hm : MtR X id r) (hr : RM X.K r s) (ho : WE X o to wo)
    (hbase : attributeBase o name X.env (eval o X.env) = eval o X.env := by rfl) (hline : (apos.endLine == cpos.line) = true := by rfl) :
    WE X (.Call (.Attribute o name apos) [] [] cpos) (tBM0 X.K "list" r to) (wML s wo wNil) := ⟨pe_bm0 PySem.F.plainAttrs_list slot hty hm ho.pe hbase hline, re_bm0 hr ho.re⟩
theorem rm_append : RM K rAppend mAppend := fun F G H μ x vs u us P Q S rx rv ⟨a, ws, y, e1, e2, h, z, p⟩ q => by
  subst e1 e2
  obtain ⟨v, rfl, q1⟩ := rus1 rv
  obtain ⟨xs, h1, h2⟩ := S.lst h
  refine ⟨a, xs, v, rx, rfl, h1, by rw [h2.length]; exact z, ?_⟩
  exact q .non (.d .none) G _ _ (Ext.refl G) (S.write (m' := .lst (ws ++ [y])) h ⟨xs ++ [v], upd_same, h2.append (.cons q1 .nil)⟩) Rp.non p
theorem rm_pop : RM K rPop mPop := fun F G H μ x vs u us P Q S rx rv ⟨a, ws, y, e1, e2, h, z, p⟩ q => by
  subst e1 e2
  cases rv
  obtain ⟨xs, h1, h2⟩ := S.lst h
  obtain ⟨v, hv, rv⟩ := h2.getU z
  refine ⟨a, xs, v, rx, rfl, h1, by rw [h2.length]; exact hv, ?_⟩
  exact q v y G _ _ (Ext.refl G) (S.write (m' := .lst ws.dropLast) h ⟨xs.dropLast, upd_same, h2.dropLast⟩) rv p
theorem rm_popAt : RM K rPopAt mPopAt := fun F G H μ x vs u us P Q S rx rv ⟨a, ws, i, k, y, e1, e2, h, l1, l2, hk, z, p⟩ q => by
  subst e1 e2
  obtain ⟨v, rfl, q1⟩ := rus1 rv
  obtain ⟨xs, h1, h2⟩ := S.lst h
  obtain ⟨v2, hv, rv2⟩ := h2.getU z
  refine ⟨a, xs, i, k, v2, rx, by rw [rp_int q1], h1, l1, l2, by rw [h2.length]; exact hk, hv, ?_⟩
  exact q v2 y G _ _ (Ext.refl G) (S.write (m' := .lst (ws.eraseIdx k)) h ⟨xs.eraseIdx k, upd_same, h2.erase k⟩) rv2 p
theorem rm_reverse : RM K rReverse mReverse := fun F G H μ x vs u us P Q S rx rv ⟨a, ws, e1, e2, h, p⟩ q => by
  subst e1 e2
  cases rv
  obtain ⟨xs, h1, h2⟩ := S.lst h
  refine ⟨a, xs, rx, rfl, h1, ?_⟩
  exact q .non (.d .none) G _ _ (Ext.refl G) (S.write (m' := .lst ws.reverse) h ⟨xs.reverse, upd_same, h2.reverse⟩) Rp.non p
end

/-! ### slices -/
def cutL {α : Type} (xs : List α) (lo hi : Option Int) : List α := (xs.drop (HT.sIx xs.length 0 lo)).take (HT.sIx xs.length xs.length hi - HT.sIx xs.length 0 lo)
theorem rus_cut {K : Fg} {G : Hp} {vs : List V} {us : List U} (lo hi : Option Int) (r : Rus K G vs us) : Rus K G (cutV vs lo hi) (cutL us lo hi) := by
  unfold cutV cutL
  rw [r.length]
  exact (r.drop _).take _
theorem cut_map {α β : Type} (f : α → β) (xs : List α) (lo hi : Option Int) : cutL (xs.map f) lo hi = (cutL xs lo hi).map f := by
  unfold cutL
  rw [List.length_map, List.map_take, List.map_drop]
theorem cut_all {α : Type} (xs : List α) (lo hi : Option Int) (h : HT.sIx xs.length 0 lo = 0 ∧ HT.sIx xs.length xs.length hi = xs.length) : cutL xs lo hi = xs := by
  unfold cutL
  rw [h.1, h.2, List.drop_zero, Nat.sub_zero, List.take_length]
abbrev WO := Rho → Mu → (Option Int → Mu → Prop) → Prop
def RPt (K : Fg) (t : TO) (w : WO) : Prop := ∀ (F G H : Hp) (μ : Mu) (σ : L2.St) (ρ : Rho) (P : Option Int → Mu → Prop) (Q : Option Int → Hp → Prop), Sim K F G H μ σ ρ → w ρ μ P →
  (∀ i G' H' μ', Ext G G' → St3 K F G' H' μ' → P i μ' → Q i H') → t σ H Q
structure WPo (X : Cx) (e : Option Expr) (t : TO) (w : WO) : Prop where
  po : PO X e t
  rp : RPt X.K t w
def wNoPart : WO := fun _ μ P => P none μ
def wPart (w : WX) : WO := fun ρ μ P => w ρ μ fun u μ1 => ∃ i, u = .d (.int i) ∧ P (some i) μ1
def wSlL (w : WX) (l h : WO) : WX := fun ρ μ P => w ρ μ fun u μ1 => l ρ μ1 fun lo μ2 => h ρ μ2 fun hi μ3 => ∃ ds : List PyData, listU μ3 u = some (ds.map U.d) ∧ P (.d (.list (cutL ds lo hi))) μ3
def wSlT (w : WX) (l h : WO) : WX := fun ρ μ P => w ρ μ fun u μ1 => l ρ μ1 fun lo μ2 => h ρ μ2 fun hi μ3 => ∃ ds : List PyData, u = .d (.tuple ds) ∧ P (.d (.tuple (cutL ds lo hi))) μ3
section
variable {K : Fg} {X : Cx} {pos p2 : Pos} {e : Expr} {lo hi : Option Expr} {te : TE} {we : WX} {tl th : TO} {wl wh : WO}
theorem w_noPart : WPo X none tNoPart wNoPart := ⟨po_none, fun F G H μ σ ρ P Q S w q => q none G H μ (Ext.refl G) S.st w⟩
theorem w_part (h : WE X e te we) : WPo X (some e) (tPart te) (wPart we) := ⟨po_some h.pe, fun F G H μ σ ρ P Q S w q => h.re F G H μ σ ρ _ _ S w fun v u G1 H1 μ1 e1 S1 r1 ⟨i, e, p⟩ => by
  subst e
  exact ⟨i, rp_int r1, q _ G1 H1 μ1 e1 S1 p⟩⟩
theorem re_slL (h : RE K te we) (hl : RPt K tl wl) (hh : RPt K th wh) : RE K (tSl (rSlL K) te tl th) (wSlL we wl wh) := fun F G H μ σ ρ P Q S w q => h F G H μ σ ρ _ _ S w fun v u G1 H1 μ1 e1 S1 r1 p1 =>
  hl F G1 H1 μ1 σ ρ _ _ (S.mono e1 S1) p1 fun lo G2 H2 μ2 e2 S2 p2 => hh F G2 H2 μ2 σ ρ _ _ (S.mono (e1.trans e2) S2) p2 fun hi G3 H3 μ3 e3 S3 ⟨ds, hd, p3⟩ => by
    obtain ⟨a, vs, rfl, h1, h2⟩ := listU_ok S3 ((r1.mono e2).mono e3) hd
    refine ⟨a, vs, rfl, h1, fun l hl => ?_⟩
    obtain ⟨e4, S4⟩ := S3.newG (o := .lst (cutV vs lo hi)) hl
    have r4 := rus_cut lo hi h2
    rw [cut_map] at r4
    exact q (.ref l) (.d (.list (cutL ds lo hi))) _ _ μ3 (((e1.trans e2).trans e3).trans e4) S4 (Rp.lst (SqL.of upd_same) ((d_rus r4).mono e4)) p3
theorem re_slT (h : RE K te we) (hl : RPt K tl wl) (hh : RPt K th wh) : RE K (tSl (rSlX K) te tl th) (wSlT we wl wh) := fun F G H μ σ ρ P Q S w q => h F G H μ σ ρ _ _ S w fun v u G1 H1 μ1 e1 S1 r1 p1 =>
  hl F G1 H1 μ1 σ ρ _ _ (S.mono e1 S1) p1 fun lo G2 H2 μ2 e2 S2 p2 => hh F G2 H2 μ2 σ ρ _ _ (S.mono (e1.trans e2) S2) p2 fun hi G3 H3 μ3 e3 S3 ⟨ds, hd, p3⟩ => by
    subst hd
    have r3 : Ru K G3 v (.d (.tuple ds)) := (r1.mono e2).mono e3
    obtain ⟨a, vs, rfl, h1, h2⟩ := rp_tup r3
    have hl := h2.length
    refine ⟨a, vs, rfl, h1.sq S3.sub, fun hw => ?_, fun _ l o hl to => ?_⟩
    · rw [hl] at hw
      rw [cut_all ds lo hi hw] at p3
      exact q (.ref a) (.d (.tuple ds)) _ _ μ3 ((e1.trans e2).trans e3) S3 r3 p3
    · obtain ⟨e4, S4⟩ := S3.newG (o := .frz o (.tup (cutV vs lo hi))) hl
      have r4 := rus_cut lo hi (rus_d h2)
      rw [cut_map] at r4
      exact q (.ref l) (.d (.tuple (cutL ds lo hi))) _ _ μ3 (((e1.trans e2).trans e3).trans e4) S4 (Rp.tup (.new to) ((d_rus r4).mono e4)) p3
theorem w_slL (h : WE X e te we) (hl : WPo X lo tl wl) (hh : WPo X hi th wh) : WE X (.Subscript e (.Slice lo hi none p2) pos) (tSl (rSlL X.K) te tl th) (wSlL we wl wh) := ⟨pe_slice sl_list h.pe hl.po hh.po, re_slL h.re hl.rp hh.rp⟩
theorem w_slT (h : WE X e te we) (hl : WPo X lo tl wl) (hh : WPo X hi th wh) : WE X (.Subscript e (.Slice lo hi none p2) pos) (tSl (rSlX X.K) te tl th) (wSlT we wl wh) := ⟨pe_slice sl_tupX h.pe hl.po hh.po, re_slT h.re hl.rp hh.rp⟩
end

/-! ### what a for walks -/
def JW (K : Fg) (G0 : Hp) (J : It) (us : List U) (Al : Mu → Prop) : Prop := ∀ (F G H : Hp) (μ : Mu), Ext G0 G → St3 K F G H μ → Al μ → ∀ i : Nat, (us.length ≤ i → J.stop i H) ∧
  ∀ u, us[i]? = some u → J.go i H ∧ ∀ x H', J.yld i H x H' → ∃ G', Ext G G' ∧ St3 K F G' H' μ ∧ Ru K G' x u
abbrev WIt := Rho → Mu → (List U → (Mu → Prop) → Mu → Prop) → Prop
def RI (K : Fg) (t : TI) (w : WIt) : Prop := ∀ (F G H : Hp) (μ : Mu) (σ : L2.St) (ρ : Rho) (P : List U → (Mu → Prop) → Mu → Prop) (R : It → Hp → Prop), Sim K F G H μ σ ρ → w ρ μ P →
  (∀ J us Al G' H' μ', Ext G G' → St3 K F G' H' μ' → JW K G' J us Al → P us Al μ' → R J H') → t σ H R
structure WI (X : Cx) (tg e : Expr) (t : TI) (w : WIt) : Prop where
  pi : PI X tg e t
  ri : RI X.K t w
/-- a list or a tuple -/
def iSeq (K : Fg) (tl : TE) : TI := fun σ H R => tl σ H fun x H1 => ∃ a, x = .ref a ∧ (((∃ xs, SqL K H1 a xs) ∧ R (Itl K a) H1) ∨ ((∃ xs, SqT K H1 a xs) ∧ R (Itt K a) H1))
theorem pi_seq {X : Cx} {tg l : Expr} {tl : TE} (hl : PE X l tl) : PI X tg l (iSeq X.K tl) := by
  refine ⟨fun pins s σ H R I h => ?_⟩
  refine thn (hl.run pins s σ H _ I h) fun v s1 ⟨x, H1, I1, r1, q1⟩ => ?_
  obtain ⟨a, e, q⟩ := q1
  subst e
  cases r1
  rcases q with ⟨⟨xs, hq⟩, q⟩ | ⟨⟨xs, hq⟩, q⟩
  · obtain ⟨its, rv, p, hz⟩ := I1.list hq
    refine wpAny_pyIter_list p.isList ?_
    refine ⟨s1.heap.objs.size, [s1.heap.objs.size], _, _, H1, rfl, I1.kept (t' := s1.toks) fun b o e => Heap.get?_push_of_some _ e, turn_list a _, ⟨_, Heap.get?_push_size _ rfl, rfl, rfl⟩, fun b hb => ?_, q⟩
    have e : b = s1.heap.objs.size := by simpa using hb
    subst e
    exact I1.fpOk (Nat.le_refl _) (I1.hok.fresh (Nat.le_refl _))
  · obtain ⟨its, rv, p, hz⟩ := I1.tuple hq
    refine wpAny_pyIter_tuple (show s1.heap.IsTuple a its.toArray from p) ?_
    refine ⟨s1.heap.objs.size, [s1.heap.objs.size], _, _, H1, rfl, I1.kept (t' := s1.toks) fun b o e => Heap.get?_push_of_some _ e, turn_tuple a _, ⟨_, Heap.get?_push_size _ rfl, rfl, rfl⟩, fun b hb => ?_, q⟩
    have e : b = s1.heap.objs.size := by simpa using hb
    subst e
    exact I1.fpOk (Nat.le_refl _) (I1.hok.fresh (Nat.le_refl _))
def jSeq (w : WX) : WIt := fun ρ μ P => w ρ μ fun u μ1 => ∃ us, itemsU μ1 u = some us ∧ P us (fun μ2 => itemsU μ2 u = some us) μ1
def jRng1 (w : WL) : WIt := fun ρ μ P => w ρ μ fun us μ1 => ∃ n : Int, us = [.d (.int n)] ∧ -(2 ^ 62) ≤ n ∧ n < 2 ^ 62 ∧ P ((List.range n.toNat).map fun i : Nat => U.d (.int (i : Int))) (fun _ => True) μ1
def jRng2 (w : WL) : WIt := fun ρ μ P => w ρ μ fun us μ1 => ∃ a b : Int, us = [.d (.int a), .d (.int b)] ∧ (-(2 ^ 62) ≤ a ∧ a < 2 ^ 62 ∧ -(2 ^ 62) ≤ b ∧ b < 2 ^ 62) ∧ P ((List.range (b - a).toNat).map fun i : Nat => U.d (.int (a + (i : Int)))) (fun _ => True) μ1
def jRev (w : WX) : WIt := fun ρ μ P => w ρ μ fun u μ1 => ∃ us, listU μ1 u = some us ∧ P us.reverse (fun μ2 => listU μ2 u = some us) μ1
section
variable {K : Fg} {X : Cx} {tg e : Expr} {te : TE} {we : WX} {ta : TA} {wa : WL} {p pos : Pos} {es : List Expr}
theorem ri_seq (h : RE K te we) : RI K (iSeq K te) (jSeq we) := fun F G H μ σ ρ P R S w q => h F G H μ σ ρ _ _ S w fun v u G1 H1 μ1 e1 S1 r1 ⟨us, hi, p⟩ => by
  by_cases hl : ∃ us, listU μ1 u = some us
  · obtain ⟨ws, hl⟩ := hl
    obtain ⟨a, vs, rfl, h1, h2⟩ := listU_ok S1 r1 hl
    refine ⟨a, rfl, .inl ⟨⟨vs, h1⟩, q _ us _ G1 H1 μ1 e1 S1 ?_ p⟩⟩
    have hne : ∀ l, u ≠ .d (.tuple l) := fun l e => by subst e; cases hl
    intro F2 G2 H2 μ2 e2 S2 al i
    have al : itemsU μ2 u = some us := al
    have al' : listU μ2 u = some us := by
      cases u with
      | d z =>
        cases z with
        | tuple l => exact absurd rfl (hne l)
        | list l => exact al
        | _ => cases al
      | r b => exact al
    obtain ⟨b, ws2, eb, k1, k2⟩ := listU_ok S2 (r1.mono e2) al'
    cases eb
    refine ⟨fun hle => ⟨ws2, k1, by rw [k2.length]; exact hle⟩, fun y hy => ?_⟩
    obtain ⟨x, hx, rx⟩ := k2.getU hy
    refine ⟨⟨ws2, x, k1, hx⟩, fun x' H' yl => ?_⟩
    obtain ⟨e, k⟩ := yl
    subst e
    have hx' := k ws2 (k1)
    rw [hx] at hx'
    cases hx'
    exact ⟨G2, Ext.refl _, S2, rx⟩
  · have ht : ∃ l, u = .d (.tuple l) := by
      cases u with
      | d z =>
        cases z with
        | tuple l => exact ⟨l, rfl⟩
        | list l => exact absurd ⟨_, rfl⟩ hl
        | _ => cases hi
      | r b => exact absurd ⟨_, hi⟩ hl
    obtain ⟨l, rfl⟩ := ht
    obtain ⟨a, vs, rfl, h1, h2⟩ := rp_tup r1
    have eus : us = l.map U.d := (Option.some.inj hi).symm
    subst eus
    refine ⟨a, rfl, .inr ⟨⟨vs, h1.sq S1.sub⟩, q _ _ _ G1 H1 μ1 e1 S1 ?_ p⟩⟩
    intro F2 G2 H2 μ2 e2 S2 al i
    have k1 : SqT K H2 a vs := (h1.mono e2).sq S2.sub
    have k2 : Rus K G2 vs (l.map U.d) := rus_d (h2.mono e2)
    refine ⟨fun hle => ⟨vs, k1, by rw [k2.length]; exact hle⟩, fun y hy => ?_⟩
    obtain ⟨x, hx, rx⟩ := k2.getU hy
    refine ⟨⟨vs, x, k1, hx⟩, fun x' H' yl => ?_⟩
    obtain ⟨e, k⟩ := yl
    subst e
    have hx' := k vs k1
    rw [hx] at hx'
    cases hx'
    exact ⟨G2, Ext.refl _, S2, rx⟩
theorem w_seq (h : WE X e te we) : WI X tg e (iSeq X.K te) (jSeq we) := ⟨pi_seq h.pe, ri_seq h.re⟩
theorem jw_rng {G0 : Hp} {lo : Int} {n : Nat} : JW K G0 (Itr lo n) ((List.range n).map fun i : Nat => U.d (.int (lo + (i : Int)))) (fun _ => True) := by
  intro F2 G2 H2 μ2 e2 S2 al i
  refine ⟨fun hle => ?_, fun y hy => ?_⟩
  · rw [List.length_map, List.length_range] at hle
    exact hle
  · have hi : i < n := by
      have := (List.getElem?_eq_some_iff.mp hy).1
      rw [List.length_map, List.length_range] at this
      exact this
    refine ⟨hi, fun x' H' yl => ?_⟩
    obtain ⟨e, k⟩ := yl
    subst e k
    rw [List.getElem?_map, List.getElem?_range hi] at hy
    cases hy
    exact ⟨G2, Ext.refl _, S2, Rp.int _⟩
theorem ri_rng1 (h : RA K ta wa) : RI K (iRng1 ta) (jRng1 wa) := fun F G H μ σ ρ P R S w q => h F G H μ σ ρ _ _ S w fun vs us G1 H1 μ1 e1 S1 r1 ⟨n, e, l1, l2, p⟩ => by
  subst e
  obtain ⟨v, rfl, q1⟩ := rus1 r1
  rw [rp_int q1]
  refine ⟨n, rfl, l1, l2, q _ _ _ G1 H1 μ1 e1 S1 ?_ p⟩
  have z := jw_rng (K := K) (G0 := G1) (lo := 0) (n := n.toNat)
  simp only [Int.zero_add] at z
  exact z
theorem ri_rng2 (h : RA K ta wa) : RI K (iRng2 ta) (jRng2 wa) := fun F G H μ σ ρ P R S w q => h F G H μ σ ρ _ _ S w fun vs us G1 H1 μ1 e1 S1 r1 ⟨a, b, e, l, p⟩ => by
  subst e
  obtain ⟨v, x, rfl, q1, q2⟩ := rus2 r1
  rw [rp_int q1, rp_int q2]
  exact ⟨a, b, rfl, l, q _ _ _ G1 H1 μ1 e1 S1 jw_rng p⟩
theorem w_rng1 (hg : Gl X "range") (hm : X.mg "range" = none) (ha : WAr X [e] ta wa) (hs : starEach [e] X.env = [(false, eval e X.env)] := by rfl) : WI X tg (.Call (.Name "range" p) [e] [] pos) (iRng1 ta) (jRng1 wa) := ⟨pi_range1 hg hm ha.pa hs, ri_rng1 ha.ra⟩
theorem w_rng2 {e2 : Expr} (hg : Gl X "range") (hm : X.mg "range" = none) (ha : WAr X [e, e2] ta wa) (hs : starEach [e, e2] X.env = [(false, eval e X.env), (false, eval e2 X.env)] := by rfl) (hs2 : starEach [e2] X.env = [(false, eval e2 X.env)] := by rfl) : WI X tg (.Call (.Name "range" p) [e, e2] [] pos) (iRng2 ta) (jRng2 wa) := ⟨pi_range2 hg hm ha.pa hs hs2, ri_rng2 ha.ra⟩
theorem ri_rev (h : RE K te we) : RI K (_root_.RT.iRevA K te) (jRev we) := fun F G H μ σ ρ P R S w q => h F G H μ σ ρ _ _ S w fun v u G1 H1 μ1 e1 S1 r1 ⟨us, hi, p⟩ => by
  obtain ⟨a, vs, rfl, h1, h2⟩ := listU_ok S1 r1 hi
  refine ⟨a, vs, rfl, .inl ⟨h1, q _ _ _ G1 H1 μ1 e1 S1 ?_ p⟩⟩
  intro F2 G2 H2 μ2 e2 S2 al i
  obtain ⟨b, ws2, eb, k1, k2⟩ := listU_ok S2 (r1.mono e2) al
  cases eb
  have hlen : ws2.length = vs.length := by rw [k2.length, h2.length]
  refine ⟨fun hle => ?_, fun y hy => ?_⟩
  · rw [List.length_reverse, ← k2.length, hlen] at hle
    exact hle
  · have hi : i < us.length := by
      have := (List.getElem?_eq_some_iff.mp hy).1
      rw [List.length_reverse] at this
      exact this
    rw [List.getElem?_reverse hi] at hy
    obtain ⟨x, hx, rx⟩ := k2.getU hy
    have hl2 : us.length = vs.length := h2.length.symm
    have hx2 : ws2[vs.length - 1 - i]? = some x := by rw [← hl2]; exact hx
    refine ⟨⟨by omega, ws2, x, k1, hx2⟩, fun x' H' yl => ?_⟩
    obtain ⟨e, k⟩ := yl
    subst e
    have hx' := k ws2 (k1)
    rw [hx2] at hx'
    cases hx'
    exact ⟨G2, Ext.refl _, S2, rx⟩
theorem w_rev (hg : Gl X "reversed") (hm : X.mg "reversed" = none) (h : WE X e te we) (hs : starEach [e] X.env = (false, eval e X.env) :: starEach [] X.env := by rfl) : WI X tg (.Call (.Name "reversed" p) [e] [] pos) (_root_.RT.iRevA X.K te) (jRev we) := ⟨_root_.RT.pi_revA hg hm h.pe hs, ri_rev h.re⟩
end

/-! ### targets -/
def gN (i : Nat) : WTg := fun u ρ μ P => P (ρ.set i (some u)) μ
def gT (l : List WTg) (u : U) (ρ : Rho) (μ : Mu) (P : Rho → Mu → Prop) : Prop := ∃ ds : List PyData, u = .d (.tuple ds) ∧ ds.length = l.length ∧ gGo l (ds.map U.d) ρ μ P
where gGo : List WTg → List U → Rho → Mu → (Rho → Mu → Prop) → Prop
  | [], _, ρ, μ, P => P ρ μ
  | g :: gs, us, ρ, μ, P => ∃ u r, us = u :: r ∧ g u ρ μ fun ρ1 μ1 => gGo gs r ρ1 μ1 P
def RGs (K : Fg) (t : TGs) (l : List WTg) : Prop := ∀ (F G H : Hp) (μ : Mu) (σ : L2.St) (ρ : Rho) (vs : List V) (us : List U) (P : Rho → Mu → Prop) (Q : L2.St → Hp → Prop), Sim K F G H μ σ ρ → Rus K G vs us → us.length = l.length → gT.gGo l us ρ μ P →
  (∀ σ' G' H' ρ' μ', Ext G G' → Sim K F G' H' μ' σ' ρ' → P ρ' μ' → Q σ' H') → t vs σ H Q
structure WGs (X : Cx) (es : List Expr) (t : TGs) (l : List WTg) : Prop where
  pg : PGs X es t
  rg : RGs X.K t l
section
variable {K : Fg} {X : Cx} {pos : Pos} {e : Expr} {es : List Expr} {t : TG} {ts : TGs} {g : WTg} {l : List WTg}
theorem rg_name {i : Nat} : RG K (gName i) (gN i) := fun F G H μ σ ρ v u P Q S r p q => q _ G H _ μ (Ext.refl G) (S.set r) p
theorem w_gn (i : Nat) {x : Str} (hN : X.N.Nodup) (hi : X.N[i]? = some x := by rfl) (hx : Loc X.env.scope x := by first | exact Or.inl rfl | exact Or.inr rfl) (hf : X.fn x = true ∨ X.env.scope.names.lookup x = some .local := by first | exact .inl rfl | exact .inr rfl) :
    WG X (.Name x pos) (gName i) (gN i) := ⟨pg_name hN hi hx hf, rg_name⟩
theorem w_gnil : WGs X [] gNil [] := ⟨pgs_nil, fun F G H μ σ ρ vs us P Q S r hl p q => by
  cases r with
  | nil => exact ⟨rfl, q σ G H ρ μ (Ext.refl G) S p⟩
  | cons _ _ => cases hl⟩
theorem w_gcons (h : WG X e t g) (k : WGs X es ts l) (hs : (assignEach (e :: es) X.env).map (·.2) = assign e X.env :: (assignEach es X.env).map (·.2) := by rfl) : WGs X (e :: es) (gCons t ts) (g :: l) :=
  ⟨pgs_cons h.pg k.pg hs, fun F G H μ σ ρ vs us P Q S r hl p q => by
    obtain ⟨u, w, e1, p⟩ := p
    subst e1
    cases r with
    | cons r1 r2 =>
      exact ⟨_, _, rfl, h.rg F G H μ σ ρ _ u _ _ S r1 p fun σ1 G1 H1 ρ1 μ1 e1 S1 p1 => k.rg F G1 H1 μ1 σ1 ρ1 _ _ P Q S1 (r2.mono e1) (Nat.succ.inj hl) p1 fun σ2 G2 H2 ρ2 μ2 e2 S2 p2 => q σ2 G2 H2 ρ2 μ2 (e1.trans e2) S2 p2⟩⟩
theorem w_gtup {k : Nat} (hc : X.calm = true) (h : WGs X es ts l) (hn : (assignEach es X.env).length = l.length := by rfl) (hst : (assignEach es X.env).findIdx? (·.1) = none := by rfl) : WG X (.Tuple es k pos) (gTup X.K l.length ts) (gT l) :=
  ⟨pg_tup hc h.pg hn hst, fun F G H μ σ ρ v u P Q S r ⟨ds, e, hl, p⟩ q => by
    subst e
    obtain ⟨a, vs, rfl, h1, h2⟩ := rp_tup r
    exact ⟨a, vs, rfl, h1.sq S.st.sub, by rw [h2.length]; exact hl, h.rg F G H μ σ ρ vs (ds.map U.d) P Q S (rus_d h2) (by rw [List.length_map]; exact hl) p q⟩⟩
/-- o[i] = e, o a list that may change -/
def gIx (wo wi : WX) : WTg := fun u ρ μ P => wo ρ μ fun o μ1 => wi ρ μ1 fun i μ2 => ∃ a us k j, o = .r a ∧ i = .d (.int k) ∧ μ2 a = some (.lst us) ∧ ixN us.length k = some j ∧ P ρ (put μ2 a (.lst (us.set j u)))
theorem w_gix {o i : Expr} {to ti : TE} {wo wi : WX} (ho : WE X o to wo) (hi : WE X i ti wi)
    (ha : ∀ v, assign (.Subscript o i pos) X.env v = (do
      let ov ← holding [v] (eval o X.env)
      let iv ← holding [v, ov] (eval i X.env)
      standAt pos
      holding [v, ov, iv] (setItem ov iv v)
      release [v, ov, iv] []) := by intro _; rfl) : WG X (.Subscript o i pos) (gSub to ti rSetL) (gIx wo wi) :=
  ⟨pg_sub ho.pe hi.pe set_list ha, fun F G H μ σ ρ v u P Q S r p q => ho.re F G H μ σ ρ _ _ S p fun ov ou G1 H1 μ1 e1 S1 r1 p1 => hi.re F G1 H1 μ1 σ ρ _ _ (S.mono e1 S1) p1 fun iv iu G2 H2 μ2 e2 S2 r2 ⟨a, us, k, j, eo, ei, hm, hj, p2⟩ => by
    subst eo ei
    obtain ⟨vs, h1, h2⟩ := S2.lst hm
    refine ⟨a, vs, k, j, r1, rp_int r2, h1, by rw [h2.length]; exact hj, ?_⟩
    have rv : Ru X.K G2 v u := (r.mono e1).mono e2
    have S3 := S2.write (m' := .lst (us.set j u)) hm ⟨vs.set j v, upd_same, h2.set rv j⟩
    exact q σ G2 _ ρ _ (e1.trans e2) ((S.mono (e1.trans e2) S2).mono (Ext.refl _) S3) p2⟩
end

/-! ### statements -/
def wNext : WSt := fun B ρ μ => B.nx ρ μ
def wBreak : WSt := fun B ρ μ => B.bk ρ μ
def wCont : WSt := fun B ρ μ => B.ct ρ μ
def wSeq (t u : WSt) : WSt := fun B ρ μ => t { B with nx := u B } ρ μ
def wDrop (w : WX) : WSt := fun B ρ μ => w ρ μ fun _ μ1 => B.nx ρ μ1
def wRet (w : WX) : WSt := fun B ρ μ => w ρ μ B.rt
def wRetN : WSt := fun B _ μ => B.rt (.d .none) μ
def wIfS (c : WB) (t u : WSt) : WSt := fun B ρ μ => c ρ μ fun b μ1 => if b = true then t B ρ μ1 else u B ρ μ1
def wAsg (w : WX) (g : WTg) : WSt := fun B ρ μ => w ρ μ fun u μ1 => g u ρ μ1 B.nx
def wAug (i : Nat) (f : Int → Int → Int) (w : WX) : WSt := fun B ρ μ => ∃ a, ρ[i]? = some (some (.d (.int a))) ∧ w ρ μ fun u μ1 => ∃ b, u = .d (.int b) ∧ B.nx (ρ.set i (some (.d (.int (f a b))))) μ1
def wWhile (c : WB) (t : WSt) : WSt := fun B ρ μ => ∃ W : Nat → Rho → Mu → Prop, (∃ m, W m ρ μ) ∧ ∀ m ρ μ, W m ρ μ → c ρ μ fun b μ1 =>
  if b = true then t { B with nx := fun ρ' μ' => ∃ m', m' < m ∧ W m' ρ' μ', ct := fun ρ' μ' => ∃ m', m' < m ∧ W m' ρ' μ', bk := B.nx } ρ μ1 else B.nx ρ μ1
def forGo (g : WTg) (t : WSt) (Al : Mu → Prop) : List U → End3 → Rho → Mu → Prop
  | [], B, ρ, μ => Al μ ∧ B.nx ρ μ
  | u :: us, B, ρ, μ => Al μ ∧ g u ρ μ fun ρ1 μ1 => t { B with nx := forGo g t Al us B, ct := forGo g t Al us B, bk := B.nx } ρ1 μ1
def wFor (i : WIt) (g : WTg) (t : WSt) : WSt := fun B ρ μ => i ρ μ fun us Al μ1 => forGo g t Al us B ρ μ1
section
variable {K : Fg} {X : Cx} {pos : Pos} {e : Expr} {te : TE} {we : WX} {st : Stmt} {rest a b : List Stmt} {t u : TS} {wt wu : WSt} {tc : TT} {wc : WB} {c : Expr}
theorem Link.with {F G : Hp} {D : Ends} {B : End3} {N : L2.St → Hp → Prop} {M : Rho → Mu → Prop} (L : Link K F G D B) (h : ∀ σ G' H ρ μ, Ext G G' → Sim K F G' H μ σ ρ → M ρ μ → N σ H) : Link K F G { D with nx := N } { B with nx := M } := ⟨h, L.rt, L.bk, L.ct⟩
theorem rs_next : RS K tNext wNext := fun F G H μ σ ρ D B S L w => L.nx σ G H ρ μ (Ext.refl G) S w
theorem rs_break : RS K tBreak wBreak := fun F G H μ σ ρ D B S L w => L.bk σ G H ρ μ (Ext.refl G) S w
theorem rs_cont : RS K tCont wCont := fun F G H μ σ ρ D B S L w => L.ct σ G H ρ μ (Ext.refl G) S w
theorem rs_seq (h : RS K t wt) (k : RS K u wu) : RS K (tSeq t u) (wSeq wt wu) := fun F G H μ σ ρ D B S L w =>
  h F G H μ σ ρ _ _ S (L.with fun σ1 G1 H1 ρ1 μ1 e1 S1 w1 => k F G1 H1 μ1 σ1 ρ1 D B S1 (L.mono e1) w1) w
theorem rs_drop (h : RE K te we) : RS K (tDrop te) (wDrop we) := fun F G H μ σ ρ D B S L w => h F G H μ σ ρ _ _ S w fun v u G1 H1 μ1 e1 S1 r1 p => L.nx σ G1 H1 ρ μ1 e1 (S.mono e1 S1) p
theorem rs_ret (h : RE K te we) : RS K (tRet te) (wRet we) := fun F G H μ σ ρ D B S L w => h F G H μ σ ρ _ _ S w fun v u G1 H1 μ1 e1 S1 r1 p => L.rt v u G1 H1 μ1 e1 S1 r1 p
theorem rs_retN : RS K tRetN wRetN := fun F G H μ σ ρ D B S L w => L.rt .non (.d .none) G H μ (Ext.refl G) S.st Rp.non w
theorem rs_if (h : RT K tc wc) (k : RS K t wt) (l : RS K u wu) : RS K (tIfS tc t u) (wIfS wc wt wu) := fun F G H μ σ ρ D B S L w => h F G H μ σ ρ _ _ S w fun c G1 H1 μ1 e1 S1 p => by
  cases c with
  | true => exact k F G1 H1 μ1 σ ρ D B (S.mono e1 S1) (L.mono e1) p
  | false => exact l F G1 H1 μ1 σ ρ D B (S.mono e1 S1) (L.mono e1) p
theorem rs_asg {g : TG} {wg : WTg} (h : RE K te we) (k : RG K g wg) : RS K (tAsg te g) (wAsg we wg) := fun F G H μ σ ρ D B S L w => h F G H μ σ ρ _ _ S w fun v u G1 H1 μ1 e1 S1 r1 p =>
  k F G1 H1 μ1 σ ρ v u _ _ (S.mono e1 S1) r1 p fun σ2 G2 H2 ρ2 μ2 e2 S2 p2 => L.nx σ2 G2 H2 ρ2 μ2 (e1.trans e2) S2 p2
theorem rs_aug {i : Nat} {f : Int → Int → Int} (h : RE K te we) : RS K (tAug i te (ipI f)) (wAug i f we) := fun F G H μ σ ρ D B S L ⟨a, ha, w⟩ => by
  obtain ⟨v, hv, rv⟩ := S.sl i _ ha
  refine ⟨v, hv, h F G H μ σ ρ _ _ S w fun y u G1 H1 μ1 e1 S1 r1 ⟨b, eb, p⟩ => ?_⟩
  subst eb
  exact ⟨a, b, rp_int rv, rp_int r1, L.nx _ G1 H1 _ μ1 e1 ((S.mono e1 S1).set (u := .d (.int (f a b))) (Rp.int _)) p⟩
theorem rs_while (h : RT K tc wc) (k : RS K t wt) : RS K (tWhile tc t) (wWhile wc wt) := fun F G H μ σ ρ D B S L ⟨W, ⟨m, w0⟩, turn⟩ =>
  ⟨fun m σ H => ∃ G1 ρ μ, Ext G G1 ∧ Sim K F G1 H μ σ ρ ∧ W m ρ μ, ⟨m, G, ρ, μ, Ext.refl G, S, w0⟩, fun m σ1 H1 ⟨G1, ρ1, μ1, e1, S1, w1⟩ => h F G1 H1 μ1 σ1 ρ1 _ _ S1 (turn m ρ1 μ1 w1) fun c G2 H2 μ2 e2 S2 p => by
    cases c with
    | true =>
      refine ⟨fun σ H => ∃ m', m' < m ∧ ∃ G1 ρ μ, Ext G G1 ∧ Sim K F G1 H μ σ ρ ∧ W m' ρ μ, fun σ' H' z => z, ?_⟩
      refine k F G2 H2 μ2 σ1 ρ1 _ { B with nx := fun ρ' μ' => ∃ m', m' < m ∧ W m' ρ' μ', ct := fun ρ' μ' => ∃ m', m' < m ∧ W m' ρ' μ', bk := B.nx } (S1.mono e2 S2) ⟨?_, ?_, ?_, ?_⟩ p
      · rintro σ3 G3 H3 ρ3 μ3 e3 S3 ⟨m', hm, w3⟩
        exact ⟨m', hm, G3, ρ3, μ3, (e1.trans e2).trans e3, S3, w3⟩
      · exact fun v u G3 H3 μ3 e3 => L.rt v u G3 H3 μ3 ((e1.trans e2).trans e3)
      · exact fun σ3 G3 H3 ρ3 μ3 e3 => L.nx σ3 G3 H3 ρ3 μ3 ((e1.trans e2).trans e3)
      · rintro σ3 G3 H3 ρ3 μ3 e3 S3 ⟨m', hm, w3⟩
        exact ⟨m', hm, G3, ρ3, μ3, (e1.trans e2).trans e3, S3, w3⟩
    | false => exact L.nx σ1 G2 H2 ρ1 μ2 (e1.trans e2) (S1.mono e2 S2) p⟩
theorem rs_for {wi : TI} {wj : WIt} {g : TG} {wg : WTg} (h : RI K wi wj) (hg : RG K g wg) (k : RS K t wt) : RS K (tFor wi g t) (wFor wj wg wt) := fun F G H μ σ ρ D B S L w => h F G H μ σ ρ _ _ S w fun J us Al G0 H0 μ0 e0 S0 jw p => by
  refine ⟨fun i m σ H => m = us.length - i ∧ i ≤ us.length ∧ ∃ G1 ρ μ, Ext G0 G1 ∧ Sim K F G1 H μ σ ρ ∧ forGo wg wt Al (us.drop i) B ρ μ, ⟨us.length, by simp, Nat.zero_le _, G0, ρ, μ0, Ext.refl _, S.mono e0 S0, p⟩, ?_⟩
  rintro i m σ1 H1 ⟨rfl, hi, G1, ρ1, μ1, e1, S1, w1⟩
  by_cases hlt : i < us.length
  · have hd : us.drop i = us[i] :: us.drop (i + 1) := List.drop_eq_getElem_cons hlt
    rw [hd] at w1
    obtain ⟨al, w1⟩ := w1
    obtain ⟨_, hu⟩ := jw F G1 H1 μ1 e1 S1.st al i
    obtain ⟨hgo, hy⟩ := hu us[i] (List.getElem?_eq_getElem hlt)
    refine .inr ⟨hgo, fun σ H => ∃ G1 ρ μ, Ext G0 G1 ∧ Sim K F G1 H μ σ ρ ∧ forGo wg wt Al (us.drop (i + 1)) B ρ μ, fun σ' H' z => ⟨us.length - (i + 1), by omega, rfl, hlt, z⟩, fun x H2 yl => ?_⟩
    obtain ⟨G2, e2, S2, r2⟩ := hy x H2 yl
    refine hg F G2 H2 μ1 σ1 ρ1 x us[i] _ _ (S1.mono e2 S2) r2 w1 fun σ3 G3 H3 ρ3 μ3 e3 S3 w3 => ?_
    have e03 : Ext G0 G3 := (e1.trans e2).trans e3
    refine k F G3 H3 μ3 σ3 ρ3 _ { B with nx := forGo wg wt Al (us.drop (i + 1)) B, ct := forGo wg wt Al (us.drop (i + 1)) B, bk := B.nx } S3 ⟨?_, ?_, ?_, ?_⟩ w3
    · exact fun σ4 G4 H4 ρ4 μ4 e4 S4 w4 => ⟨G4, ρ4, μ4, e03.trans e4, S4, w4⟩
    · exact fun v u G4 H4 μ4 e4 => L.rt v u G4 H4 μ4 ((e0.trans e03).trans e4)
    · exact fun σ4 G4 H4 ρ4 μ4 e4 => L.nx σ4 G4 H4 ρ4 μ4 ((e0.trans e03).trans e4)
    · exact fun σ4 G4 H4 ρ4 μ4 e4 S4 w4 => ⟨G4, ρ4, μ4, e03.trans e4, S4, w4⟩
  · have hd : us.drop i = [] := List.drop_eq_nil_of_le (by omega)
    rw [hd] at w1
    obtain ⟨al, w1⟩ := w1
    obtain ⟨hs, _⟩ := jw F G1 H1 μ1 e1 S1.st al i
    exact .inl ⟨hs (by omega), L.nx σ1 G1 H1 ρ1 μ1 (e0.trans e1) S1 w1⟩
theorem w_snil : WSs X [] tNext wNext := ⟨pss_nil, rs_next⟩
theorem w_scons (h : WS X st t wt) (k : WSs X rest u wu) : WSs X (st :: rest) (tSeq t u) (wSeq wt wu) := ⟨pss_cons h.ps k.ps, rs_seq h.rs k.rs⟩
theorem w_sone (h : WS X st t wt) : WSs X [st] t wt := ⟨pss_one h.ps, h.rs⟩
theorem w_pass : WS X (.Pass pos) tNext wNext := ⟨ps_pass, rs_next⟩
theorem w_break : WS X (.Break pos) tBreak wBreak := ⟨ps_break, rs_break⟩
theorem w_continue : WS X (.Continue pos) tCont wCont := ⟨ps_continue, rs_cont⟩
theorem w_expr (h : WE X e te we) (hs : swapsWith e none pos.line X.env = pure false := by rfl) : WS X (.Expr e pos) (tDrop te) (wDrop we) := ⟨ps_expr h.pe hs, rs_drop h.re⟩
theorem w_ret (h : WE X e te we) : WS X (.Return (some e) pos) (tRet te) (wRet we) := ⟨ps_ret h.pe, rs_ret h.re⟩
theorem w_retN : WS X (.Return none pos) tRetN wRetN := ⟨ps_retN, rs_retN⟩
theorem w_ifS (h : WT X c tc wc) (k : WSs X a t wt) (l : WSs X b u wu) : WS X (.If c a b pos) (tIfS tc t u) (wIfS wc wt wu) := ⟨ps_if h.pt k.ps l.ps, rs_if h.rt k.rs l.rs⟩
theorem w_set (i : Nat) {x : Str} {pos' : Pos} (hN : X.N.Nodup) (h : WE X e te we) (hi : X.N[i]? = some x := by rfl) (hx : Loc X.env.scope x := by first | exact Or.inl rfl | exact Or.inr rfl) (hs : swapsWith e (some (.Name x pos')) pos.line X.env = pure false := by rfl)
    (hf : X.fn x = true ∨ X.env.scope.names.lookup x = some .local := by first | exact .inl rfl | exact .inr rfl) : WS X (.Assign [.Name x pos'] e pos) (tAsg te (gName i)) (wAsg we (gN i)) := ⟨ps_set hN hi hx h.pe hs hf, rs_asg h.re rg_name⟩
theorem w_asg {tg : Expr} {g : TG} {wg : WTg} (h : WE X e te we) (k : WG X tg g wg) (hs : swapsWithSole [tg] e pos.line X.env = pure false := by rfl) (hw : swappedStores [tg] e X.env = pure none := by rfl)
    (h1 : (assignEach [tg] X.env).map (·.2) = [assign tg X.env] := by rfl) : WS X (.Assign [tg] e pos) (tAsg te g) (wAsg we wg) := ⟨ps_asg h.pe k.pg hs hw h1, rs_asg h.re k.rg⟩
theorem w_aug (i : Nat) {x : Str} {op : Operator} {f : Int → Int → Int} {pos' : Pos} (hN : X.N.Nodup) (h : WE X e te we) (ho : PIp X op (ipI f)) (hi : X.N[i]? = some x := by rfl) (hx : Loc X.env.scope x := by first | exact Or.inl rfl | exact Or.inr rfl)
    (hf : X.fn x = true ∨ X.env.scope.names.lookup x = some .local := by first | exact .inl rfl | exact .inr rfl) : WS X (.AugAssign (.Name x pos') op e pos) (tAug i te (ipI f)) (wAug i f we) := ⟨ps_aug hN hi hx h.pe ho hf, rs_aug h.re⟩
theorem w_while (hp : PassesOwn (model X.prog X.w) X.A X.env X.xe) (h : WT X c tc wc) (k : WSs X a t wt) : WS X (.While c a [] pos) (tWhile tc t) (wWhile wc wt) := ⟨ps_while hp h.pt k.ps, rs_while h.rt k.rs⟩
theorem w_for {tg iter : Expr} {wi : TI} {wj : WIt} {g : TG} {wg : WTg} (hp : PassesOwn (model X.prog X.w) X.A X.env X.xe) (hc : X.calm = true) (hi : WI X tg iter wi wj) (hg : WG X tg g wg) (k : WSs X a t wt) (hs : ∀ x, foldedSetIterable iter X.env x = pure x := by intro _; rfl) :
    WS X (.For tg iter a [] pos) (tFor wi g t) (wFor wj wg wt) := ⟨ps_for hp hc hi.pi hg.pg k.ps hs, rs_for hi.ri hg.rg k.rs⟩
end
end L3

namespace L3
open PySem PySem.Spec PyProof.Rows L2

/-! ### comprehensions -/
theorem wipe_get (σ : L2.St) : ∀ (vs : List Nat) (i : Nat), (wipe σ vs)[i]? = if i ∈ vs then σ[i]?.map (fun _ => none) else σ[i]?
  | [], i => by simp [wipe]
  | v :: vs, i => by
    show ((wipe σ vs).set v none)[i]? = _
    by_cases h : v = i
    · subst h
      rw [if_pos List.mem_cons_self]
      by_cases hl : v < σ.length
      · rw [List.getElem?_set_self (by rw [wipe_length]; exact hl), List.getElem?_eq_getElem hl]; rfl
      · rw [List.getElem?_eq_none (by rw [List.length_set, wipe_length]; omega), List.getElem?_eq_none (by omega)]; rfl
    · rw [List.getElem?_set_ne h, wipe_get σ vs i]
      have e : (i ∈ v :: vs) ↔ i ∈ vs := ⟨fun z => (List.mem_cons.mp z).resolve_left fun q => h q.symm, List.mem_cons_of_mem _⟩
      simp only [e]
theorem wipe_ext {σ τ : L2.St} {vs : List Nat} (hl : σ.length = τ.length) (h : ∀ i, i ∉ vs → σ[i]? = τ[i]?) : wipe σ vs = wipe τ vs := by
  apply List.ext_getElem?
  intro i
  rw [wipe_get, wipe_get]
  by_cases hi : i ∈ vs
  · rw [if_pos hi, if_pos hi]
    by_cases hb : i < σ.length
    · rw [List.getElem?_eq_getElem hb, List.getElem?_eq_getElem (by omega : i < τ.length)]; rfl
    · rw [List.getElem?_eq_none (by omega), List.getElem?_eq_none (by omega)]
  · rw [if_neg hi, if_neg hi, h i hi]
theorem wipe_wipe (σ : L2.St) (vs : List Nat) : wipe (wipe σ vs) vs = wipe σ vs := wipe_ext (wipe_length _ _) fun i hi => by rw [wipe_get, if_neg hi]
def wipeR (ρ : Rho) : List Nat → Rho
  | [] => ρ
  | v :: vs => (wipeR ρ vs).set v none
theorem Sim.unset {K : Fg} {F G H : Hp} {μ : Mu} {σ : L2.St} {ρ : Rho} (S : Sim K F G H μ σ ρ) (i : Nat) : Sim K F G H μ (σ.set i none) (ρ.set i none) := by
  refine ⟨S.st, by rw [List.length_set, List.length_set]; exact S.len, fun j u h => ?_⟩
  by_cases q : i = j
  · subst q
    have hl : i < (ρ.set i none).length := (List.getElem?_eq_some_iff.mp h).1
    rw [List.length_set] at hl
    rw [List.getElem?_set_self hl] at h
    cases h
  · rw [List.getElem?_set_ne q] at h ⊢
    exact S.sl j u h
theorem Sim.wipe {K : Fg} {F G H : Hp} {μ : Mu} {σ : L2.St} {ρ : Rho} (S : Sim K F G H μ σ ρ) : ∀ vs : List Nat, Sim K F G H μ (L2.wipe σ vs) (wipeR ρ vs)
  | [] => S
  | v :: vs => (Sim.wipe S vs).unset v
def GOnly (g : TG) (vs : List Nat) : Prop := ∀ v σ H (Q : L2.St → Hp → Prop), g v σ H Q → g v σ H fun σ2 H2 => wipe σ2 vs = wipe σ vs ∧ Q σ2 H2
theorem go_name {i : Nat} {vs : List Nat} (h : i ∈ vs) : GOnly (gName i) vs := fun v σ H Q q => ⟨wipe_ext (List.length_set ..) fun j hj => by
  rw [List.getElem?_set_ne]
  intro e
  subst e
  exact hj h, q⟩
def GsOnly (g : TGs) (vs : List Nat) : Prop := ∀ xs σ H (Q : L2.St → Hp → Prop), g xs σ H Q → g xs σ H fun σ2 H2 => wipe σ2 vs = wipe σ vs ∧ Q σ2 H2
theorem gso_nil {vs : List Nat} : GsOnly gNil vs := fun xs σ H Q ⟨e, q⟩ => ⟨e, rfl, q⟩
def lcGo (g : WTg) (wt : WB) (we : WX) (Al : Mu → Prop) : List U → List U → Rho → Mu → (List U → Mu → Prop) → Prop
  | [], acc, _, μ, P => Al μ ∧ P acc μ
  | u :: us, acc, ρ, μ, P => Al μ ∧ g u ρ μ fun ρ1 μ1 => wt ρ1 μ1 fun b μ2 => if b = true then we ρ1 μ2 fun y μ3 => acc.length < sizeLine ∧ lcGo g wt we Al us (acc ++ [y]) ρ μ3 P else lcGo g wt we Al us acc ρ μ2 P
def wLc (it : WIt) (vs : List Nat) (g : WTg) (wt : WB) (we : WX) : WX := fun ρ μ P => it ρ μ fun us Al μ1 => lcGo g wt we Al us [] (wipeR ρ vs) μ1 fun ys μ2 => ∃ ds : List PyData, ys = ds.map U.d ∧ P (.d (.list ds)) μ2
def wLcM (it : WIt) (vs : List Nat) (g : WTg) (wt : WB) (we : WX) : WX := fun ρ μ P => it ρ μ fun us Al μ1 => lcGo g wt we Al us [] (wipeR ρ vs) μ1 fun ys μ2 => ∀ p, μ2 p = none → P (.r p) (put μ2 p (.lst ys))
def wYes : WB := fun _ μ P => P true μ
structure WTs (X : Cx) (ifs : List Expr) (t : TT) (w : WB) : Prop where
  pt : PTs X ifs t
  rt : RT X.K t w
theorem w_tsnil {X : Cx} : WTs X [] tYes wYes := ⟨pts_nil, fun F G H μ σ ρ P Q S w q => q true G H μ (Ext.refl G) S.st w⟩
theorem w_tsone {X : Cx} {c : Expr} {t : TT} {w : WB} (h : WT X c t w) : WTs X [c] t w := ⟨pts_one h.pt, h.rt⟩
section
variable {K : Fg} {wi : TI} {wj : WIt} {g : TG} {wg : WTg} {tt : TT} {wt : WB} {te : TE} {we : WX} {vs : List Nat}
theorem lc_run (hi : RI K wi wj) (hg : RG K g wg) (go : GOnly g vs) (ht : RT K tt wt) (he : RE K te we) {F G H : Hp} {μ : Mu} {σ : L2.St} {ρ : Rho} {P : List U → Mu → Prop} {Q : VK} (S : Sim K F G H μ σ ρ) (w : wj ρ μ fun us Al μ1 => lcGo wg wt we Al us [] (wipeR ρ vs) μ1 P)
    (q : ∀ (D : Addr) (acc : List V) (ys : List U) (G' H' : Hp) (μ' : Mu), Ext G G' → F D = none → St3 K (upd F D (.lst acc)) G' H' μ' → Rus K G' acc ys → P ys μ' → Q (.ref D) H') : tLc wi g tt te vs σ H Q := by
  refine hi F G H μ σ ρ _ _ S w fun J us Al G0 H0 μ0 e0 S0 jw p D hD => ?_
  have hFD := S0.fnone hD
  refine ⟨fun i m H => m = us.length - i ∧ i ≤ us.length ∧ ∃ G1 μ acc ys, Ext G0 G1 ∧ St3 K (upd F D (.lst acc)) G1 H μ ∧ Rus K G1 acc ys ∧ lcGo wg wt we Al (us.drop i) ys (wipeR ρ vs) μ P, ⟨us.length, by simp, Nat.zero_le _, G0, μ0, [], [], Ext.refl _, S0.newF hD, .nil, p⟩, ?_⟩
  rintro i m H1 ⟨rfl, hi, G1, μ1, acc, ys, e1, S1, r1, w1⟩
  by_cases hlt : i < us.length
  · have hd : us.drop i = us[i] :: us.drop (i + 1) := List.drop_eq_getElem_cons hlt
    rw [hd] at w1
    obtain ⟨al, w1⟩ := w1
    obtain ⟨_, hu⟩ := jw _ G1 H1 μ1 e1 S1 al i
    obtain ⟨hgo, hy⟩ := hu us[i] (List.getElem?_eq_getElem hlt)
    refine .inr ⟨hgo, fun H => ∃ G1 μ acc ys, Ext G0 G1 ∧ St3 K (upd F D (.lst acc)) G1 H μ ∧ Rus K G1 acc ys ∧ lcGo wg wt we Al (us.drop (i + 1)) ys (wipeR ρ vs) μ P, fun H' z => ⟨us.length - (i + 1), by omega, rfl, hlt, z⟩, fun x H2 yl => ?_⟩
    obtain ⟨G2, e2, S2, r2⟩ := hy x H2 yl
    have Sw : Sim K (upd F D (.lst acc)) G2 H2 μ1 (wipe σ vs) (wipeR ρ vs) := ⟨S2, (S.wipe vs).len, fun j u h => by
      obtain ⟨v, h1, h2⟩ := (S.wipe vs).sl j u h
      exact ⟨v, h1, h2.mono ((e0.trans e1).trans e2)⟩⟩
    have key := go x (wipe σ vs) H2 _ (hg _ G2 H2 μ1 (wipe σ vs) (wipeR ρ vs) x us[i] _ (fun σ3 H3 => tt σ3 H3 fun b H3 =>
      if b = true then te σ3 H3 fun y H4 => ∃ acc, H4 D = some (.lst acc) ∧ acc.length < sizeLine ∧ (∃ G1 μ acc' ys, Ext G0 G1 ∧ St3 K (upd F D (.lst acc')) G1 (upd H4 D (.lst (acc ++ [y]))) μ ∧ Rus K G1 acc' ys ∧ lcGo wg wt we Al (us.drop (i + 1)) ys (wipeR ρ vs) μ P)
      else (∃ G1 μ acc ys, Ext G0 G1 ∧ St3 K (upd F D (.lst acc)) G1 H3 μ ∧ Rus K G1 acc ys ∧ lcGo wg wt we Al (us.drop (i + 1)) ys (wipeR ρ vs) μ P)) Sw r2 w1 fun σ3 G3 H3 ρ3 μ3 e3 S3 w3 => ?_)
    · rw [wipe_wipe] at key
      exact key
    · refine ht _ G3 H3 μ3 σ3 ρ3 _ _ S3 w3 fun b G4 H4 μ4 e4 S4 w4 => ?_
      cases b with
      | true =>
        show te σ3 H4 _
        refine he _ G4 H4 μ4 σ3 ρ3 _ _ (S3.mono e4 S4) w4 fun y u G5 H5 μ5 e5 S5 r5 ⟨hz, w5⟩ => ?_
        obtain ⟨hD5, _, _⟩ := S5.fr D _ upd_same
        have e15 : Ext G1 G5 := ((e2.trans e3).trans e4).trans e5
        exact ⟨acc, hD5, by rw [r1.length]; exact hz, G5, μ5, acc ++ [y], ys ++ [u], e1.trans e15, S5.setF, (r1.mono e15).append (.cons r5 .nil), w5⟩
      | false => exact ⟨G4, μ4, acc, ys, ((e1.trans e2).trans e3).trans e4, S4, r1.mono ((e2.trans e3).trans e4), w4⟩
  · have hd : us.drop i = [] := List.drop_eq_nil_of_le (by omega)
    rw [hd] at w1
    obtain ⟨al, w1⟩ := w1
    obtain ⟨hs, _⟩ := jw _ G1 H1 μ1 e1 S1 al i
    exact .inl ⟨hs (by omega), q D acc ys G1 H1 μ1 (e0.trans e1) hFD S1 r1 w1⟩
theorem re_lc (hi : RI K wi wj) (hg : RG K g wg) (go : GOnly g vs) (ht : RT K tt wt) (he : RE K te we) : RE K (tLc wi g tt te vs) (wLc wj vs wg wt we) := fun F G H μ σ ρ P Q S w q =>
  lc_run hi hg go ht he S w fun D acc ys G1 H1 μ1 e1 hD S1 r1 ⟨ds, e, p⟩ => by
    subst e
    obtain ⟨e2, S2⟩ := S1.unF hD
    exact q (.ref D) (.d (.list ds)) _ _ μ1 (e1.trans e2) S2 (Rp.lst (SqL.of upd_same) ((d_rus r1).mono e2)) p
theorem re_lcM (hi : RI K wi wj) (hg : RG K g wg) (go : GOnly g vs) (ht : RT K tt wt) (he : RE K te we) : RE K (tLc wi g tt te vs) (wLcM wj vs wg wt we) := fun F G H μ σ ρ P Q S w q =>
  lc_run hi hg go ht he S w fun D acc ys G1 H1 μ1 e1 hD S1 r1 p => by
    obtain ⟨h1, h2, h3⟩ := S1.fr D _ upd_same
    exact q (.ref D) (.r D) G1 H1 _ e1 (S1.unFM (m := .lst ys) hD ⟨acc, h1, r1⟩) rfl (p D h3)
end
section
variable {X : Cx} {elt tg iter : Expr} {ifs : List Expr} {scope : Scope} {own : List (Str × Nat)} {pos : Pos} {wi : TI} {wj : WIt} {g : TG} {wg : WTg} {tt : TT} {wt : WB} {te : TE} {we : WX}
theorem w_lc (hc : X.calm = true) (hN : X.N.Nodup) (hi : WI X tg iter wi wj) (ok : BlkOk X.N X.env.scope scope own) (go : GOnly g (own.map (·.2)))
    (hg : ∀ (s : Shared) (H : Hp) (C : Addr) (cl : List (Str × Addr)) (fp : List Addr), WG (X.blk s H scope (compEnvC scope cl C X.env) fp) tg g wg) (ht : ∀ (s : Shared) (H : Hp) (C : Addr) (cl : List (Str × Addr)) (fp : List Addr), WTs (X.blk s H scope (compEnvC scope cl C X.env) fp) ifs tt wt)
    (he : ∀ (s : Shared) (H : Hp) (C : Addr) (cl : List (Str × Addr)) (fp : List Addr), WE (X.blk s H scope (compEnvC scope cl C X.env) fp) elt te we) (hs : ∀ x, foldedSetIterable iter X.env x = pure x := by intro _; rfl) :
    WE X (.ListComp elt [⟨tg, iter, ifs, 0⟩] scope pos) (tLc wi g tt te (own.map (·.2))) (wLc wj (own.map (·.2)) wg wt we) :=
  ⟨pe_lc hc hN hi.pi ok (fun s H C cl fp => (hg s H C cl fp).pg) (fun s H C cl fp => (ht s H C cl fp).pt) (fun s H C cl fp => (he s H C cl fp).pe) hs, re_lc hi.ri (hg X.s_0 X.H_0 0 [] []).rg go (ht X.s_0 X.H_0 0 [] []).rt (he X.s_0 X.H_0 0 [] []).re⟩
theorem w_lcM (hc : X.calm = true) (hN : X.N.Nodup) (hi : WI X tg iter wi wj) (ok : BlkOk X.N X.env.scope scope own) (go : GOnly g (own.map (·.2)))
    (hg : ∀ (s : Shared) (H : Hp) (C : Addr) (cl : List (Str × Addr)) (fp : List Addr), WG (X.blk s H scope (compEnvC scope cl C X.env) fp) tg g wg) (ht : ∀ (s : Shared) (H : Hp) (C : Addr) (cl : List (Str × Addr)) (fp : List Addr), WTs (X.blk s H scope (compEnvC scope cl C X.env) fp) ifs tt wt)
    (he : ∀ (s : Shared) (H : Hp) (C : Addr) (cl : List (Str × Addr)) (fp : List Addr), WE (X.blk s H scope (compEnvC scope cl C X.env) fp) elt te we) (hs : ∀ x, foldedSetIterable iter X.env x = pure x := by intro _; rfl) :
    WE X (.ListComp elt [⟨tg, iter, ifs, 0⟩] scope pos) (tLc wi g tt te (own.map (·.2))) (wLcM wj (own.map (·.2)) wg wt we) :=
  ⟨pe_lc hc hN hi.pi ok (fun s H C cl fp => (hg s H C cl fp).pg) (fun s H C cl fp => (ht s H C cl fp).pt) (fun s H C cl fp => (he s H C cl fp).pe) hs, re_lcM hi.ri (hg X.s_0 X.H_0 0 [] []).rg go (ht X.s_0 X.H_0 0 [] []).rt (he X.s_0 X.H_0 0 [] []).re⟩
/-- name = [..] on one line -/
theorem w_setLc (i : Nat) {y : Str} {py spos : Pos} (hc : X.calm = true) (hN : X.N.Nodup) (hsw : swapsWith (.ListComp elt [⟨tg, iter, ifs, 0⟩] scope pos) (some (.Name y py)) spos.line X.env = pure true) (hi : WI X tg iter wi wj) (ok : BlkOk X.N X.env.scope scope own) (go : GOnly g (own.map (·.2)))
    (hg : ∀ (s : Shared) (H : Hp) (C : Addr) (cl : List (Str × Addr)) (fp : List Addr), WG (X.blk s H scope (compEnvC scope cl C X.env) fp) tg g wg) (ht : ∀ (s : Shared) (H : Hp) (C : Addr) (cl : List (Str × Addr)) (fp : List Addr), WTs (X.blk s H scope (compEnvC scope cl C X.env) fp) ifs tt wt)
    (he : ∀ (s : Shared) (H : Hp) (C : Addr) (cl : List (Str × Addr)) (fp : List Addr), WE (X.blk s H scope (compEnvC scope cl C X.env) fp) elt te we) (hy : X.N[i]? = some y := by rfl) (hyl : X.env.scope.names.lookup y = some .local := by rfl) (hs : ∀ x, foldedSetIterable iter X.env x = pure x := by intro _; rfl) :
    WS X (.Assign [.Name y py] (.ListComp elt [⟨tg, iter, ifs, 0⟩] scope pos) spos) (tAsg (tLc wi g tt te (own.map (·.2))) (gName i)) (wAsg (wLc wj (own.map (·.2)) wg wt we) (gN i)) :=
  ⟨ps_setLc hc hN hy hyl hsw hi.pi ok (fun s H C cl fp => (hg s H C cl fp).pg) (fun s H C cl fp => (ht s H C cl fp).pt) (fun s H C cl fp => (he s H C cl fp).pe) hs, rs_asg (re_lc hi.ri (hg X.s_0 X.H_0 0 [] []).rg go (ht X.s_0 X.H_0 0 [] []).rt (he X.s_0 X.H_0 0 [] []).re) rg_name⟩
theorem w_setLcM (i : Nat) {y : Str} {py spos : Pos} (hc : X.calm = true) (hN : X.N.Nodup) (hsw : swapsWith (.ListComp elt [⟨tg, iter, ifs, 0⟩] scope pos) (some (.Name y py)) spos.line X.env = pure true) (hi : WI X tg iter wi wj) (ok : BlkOk X.N X.env.scope scope own) (go : GOnly g (own.map (·.2)))
    (hg : ∀ (s : Shared) (H : Hp) (C : Addr) (cl : List (Str × Addr)) (fp : List Addr), WG (X.blk s H scope (compEnvC scope cl C X.env) fp) tg g wg) (ht : ∀ (s : Shared) (H : Hp) (C : Addr) (cl : List (Str × Addr)) (fp : List Addr), WTs (X.blk s H scope (compEnvC scope cl C X.env) fp) ifs tt wt)
    (he : ∀ (s : Shared) (H : Hp) (C : Addr) (cl : List (Str × Addr)) (fp : List Addr), WE (X.blk s H scope (compEnvC scope cl C X.env) fp) elt te we) (hy : X.N[i]? = some y := by rfl) (hyl : X.env.scope.names.lookup y = some .local := by rfl) (hs : ∀ x, foldedSetIterable iter X.env x = pure x := by intro _; rfl) :
    WS X (.Assign [.Name y py] (.ListComp elt [⟨tg, iter, ifs, 0⟩] scope pos) spos) (tAsg (tLc wi g tt te (own.map (·.2))) (gName i)) (wAsg (wLcM wj (own.map (·.2)) wg wt we) (gN i)) :=
  ⟨ps_setLc hc hN hy hyl hsw hi.pi ok (fun s H C cl fp => (hg s H C cl fp).pg) (fun s H C cl fp => (ht s H C cl fp).pt) (fun s H C cl fp => (he s H C cl fp).pe) hs, rs_asg (re_lcM hi.ri (hg X.s_0 X.H_0 0 [] []).rg go (ht X.s_0 X.H_0 0 [] []).rt (he X.s_0 X.H_0 0 [] []).re) rg_name⟩
end

/-! ### changes of words alone -/
/-- the things at a frozen, dropped, or told otherwise -/
def frzR (a : Addr) (ds : List PyData) (ρ : Rho) : Rho := ρ.map fun o => match o with
  | some (.r b) => if b = a then some (.d (.list ds)) else some (.r b)
  | o => o
theorem Sim.freeze {K : Fg} {F G H : Hp} {μ : Mu} {σ : L2.St} {ρ : Rho} {a : Addr} {ds : List PyData} (S : Sim K F G H μ σ ρ) (h : μ a = some (.lst (ds.map U.d))) : ∃ G', Ext G G' ∧ Sim K F G' H (del μ a) σ (frzR a ds ρ) := by
  obtain ⟨vs, e, S', r⟩ := S.st.freeze h
  refine ⟨_, e, S', by unfold frzR; rw [List.length_map]; exact S.len, fun i u hu => ?_⟩
  unfold frzR at hu
  rw [List.getElem?_map] at hu
  cases q : ρ[i]? with
  | none => rw [q] at hu; cases hu
  | some o =>
    rw [q] at hu
    cases o with
    | none => cases hu
    | some w =>
      obtain ⟨v, h1, h2⟩ := S.sl i w q
      cases w with
      | d x =>
        cases hu
        exact ⟨v, h1, Ru.mono e h2⟩
      | r b =>
        have hu' : (if b = a then some (U.d (.list ds)) else some (U.r b)) = some u := Option.some.inj hu
        by_cases hb : b = a
        · subst hb
          rw [if_pos rfl] at hu'
          cases hu'
          exact ⟨v, h1, by rw [show v = .ref b from h2]; exact r⟩
        · rw [if_neg hb] at hu'
          cases hu'
          exact ⟨v, h1, h2⟩
/-- behind a freezing of the list in slot i -/
def wFrz (i : Nat) (w : WSt) : WSt := fun B ρ μ => ∃ a ds, ρ[i]? = some (some (.r a)) ∧ μ a = some (.lst (ds.map U.d)) ∧ w B (frzR a ds ρ) (del μ a)
theorem rs_frz {K : Fg} {t : TS} {w : WSt} (i : Nat) (h : RS K t w) : RS K t (wFrz i w) := fun F G H μ σ ρ D B S L ⟨a, ds, h1, h2, w⟩ => by
  obtain ⟨G', e, S'⟩ := S.freeze h2
  exact h F G' H _ σ _ D B S' (L.mono e) w
theorem w_frz {X : Cx} {s : List Stmt} {t : TS} {w : WSt} (i : Nat) (h : WSs X s t w) : WSs X s t (wFrz i w) := ⟨h.ps, rs_frz i h.rs⟩
/-- what a def hands back, told otherwise: a list frozen, a hand made, things forgotten -/
inductive Gv (μ0 : Mu) : U → Mu → U → Mu → Prop
  | rfl {u : U} {μ : Mu} : Gv μ0 u μ u μ
  | frz {a : Addr} {ds : List PyData} {μ : Mu} : μ a = some (.lst (ds.map U.d)) → Gv μ0 (.r a) μ (.d (.list ds)) (del μ a)
  | drop {u w : U} {a : Addr} {μ μ' : Mu} : Gv μ0 u (del μ a) w μ' → Gv μ0 u μ w μ'
  | hand {u w : U} {a : Addr} {ns : List Int} {i r t : Int} {μ μ' : Mu} : μ a = some (.lst [.d (.list (ns.map .int)), .d (.int i), .d (.int r), .d (.int t)]) → ns.length ≤ 63 → (∀ x ∈ ns, 0 ≤ x) → 0 ≤ i → i ≤ 63 → 0 ≤ r → Gv μ0 u (put μ a .hand) w μ' → Gv μ0 u μ w μ'
theorem rus_cons {K : Fg} {G : Hp} {vs : List V} {u : U} {us : List U} (h : Rus K G vs (u :: us)) : ∃ v ws, vs = v :: ws ∧ Ru K G v u ∧ Rus K G ws us := by
  cases h with
  | cons h t => exact ⟨_, _, rfl, h, t⟩
theorem Gv.go {K : Fg} {F : Hp} {μ0 : Mu} {u w : U} {μ μ' : Mu} (g : Gv μ0 u μ w μ') : ∀ {G H : Hp} {v : V}, St3 K F G H μ → Ru K G v u → ∃ G', Ext G G' ∧ St3 K F G' H μ' ∧ Ru K G' v w := by
  induction g with
  | rfl => exact fun S r => ⟨_, Ext.refl _, S, r⟩
  | frz h =>
    intro G H v S r
    obtain ⟨vs, e, S', r'⟩ := S.freeze h
    exact ⟨_, e, S', by rw [show v = .ref _ from r]; exact r'⟩
  | drop _ ih => exact fun S r => ih S.drop r
  | hand h l1 l2 l3 l4 l5 _ ih =>
    intro G H v S r
    refine ih (S.reword h ?_) r
    obtain ⟨vs, h1, h2⟩ := S.lst h
    obtain ⟨v1, w1, rfl, r1, h2⟩ := rus_cons h2
    obtain ⟨v2, w2, rfl, r2, h2⟩ := rus_cons h2
    obtain ⟨v3, w3, rfl, r3, h2⟩ := rus_cons h2
    obtain ⟨v4, w4, rfl, r4, h2⟩ := rus_cons h2
    cases h2
    obtain ⟨c, xs, rfl, g1, g2⟩ := rp_lst r1
    rw [rps_ints g2] at g1
    rw [rp_int r2, rp_int r3, rp_int r4] at h1
    exact ⟨c, _, _, _, _, h1, g1, l1, l2, l3, l4, l5⟩
/-- the hand opened -/
theorem St3.openHand {K : Fg} {F G H : Hp} {μ : Mu} {a : Addr} (S : St3 K F G H μ) (h : μ a = some .hand) : ∃ (ns : List Int) (i r t : Int), ns.length ≤ 63 ∧ (∀ x ∈ ns, 0 ≤ x) ∧ 0 ≤ i ∧ i ≤ 63 ∧ 0 ≤ r ∧
    St3 K F G H (put μ a (.lst [.d (.list (ns.map .int)), .d (.int i), .d (.int r), .d (.int t)])) := by
  obtain ⟨hg, c, i, r, t, ns, h1, h2, l1, l2, l3, l4, l5⟩ := S.mu _ _ h
  exact ⟨ns, i, r, t, l1, l2, l3, l4, l5, S.reword h ⟨_, h1, .cons (Rp.lst h2 (rps_ints' ns)) (.cons (Rp.int i) (.cons (Rp.int r) (.cons (Rp.int t) .nil)))⟩⟩

/-! ### a def by its body -/
def start3 (N : List Str) (us : List U) : Rho := us.map some ++ List.replicate (N.length - us.length) none
theorem start_sim {K : Fg} {F G H : Hp} {μ : Mu} {N : List Str} {vs : List V} {us : List U} (S : St3 K F G H μ) (r : Rus K G vs us) : Sim K F G H μ (L2.start N vs) (start3 N us) := by
  have hl := r.length
  refine ⟨S, by unfold L2.start start3; rw [List.length_append, List.length_append, List.length_map, List.length_map, List.length_replicate, List.length_replicate, hl], fun i u h => ?_⟩
  unfold start3 at h
  unfold L2.start
  by_cases hi : i < us.length
  · rw [List.getElem?_append_left (by rw [List.length_map]; exact hi), List.getElem?_map] at h
    rw [List.getElem?_append_left (by rw [List.length_map]; omega), List.getElem?_map]
    cases q : us[i]? with
    | none => rw [q] at h; cases h
    | some w =>
      rw [q] at h
      cases h
      obtain ⟨v, h1, h2⟩ := r.getU q
      exact ⟨v, by rw [h1]; rfl, h2⟩
  · rw [List.getElem?_append_right (by rw [List.length_map]; omega), List.getElem?_replicate] at h
    split at h <;> cases h
section
variable {P : Program} {w : World} {K : Fg} {mg : Str → Option Value} {base : Heap}
/-- THE RULE for a def: its body's worth; what it hands back may be told otherwise -/
theorem fn3 {x : Str} {params : Arguments} {body : List Stmt} {scope : Scope} {f : Addr} {fd : FuncData} {N ps : List Str} {k : Nat} {s : WF} (Fd : FunD K x x params body scope [] [] f fd) (hmg : mg x = some (.ref f)) (hbind : Binds K fd ps []) (S : FnScope N ps scope)
    (len : ∀ us μ Q, s us μ Q → us.length = ps.length)
    (hbody : ∀ (cdv : Value) (A : Around) (outer : List Env) (sh : Shared) (H : Hp) (E : XK), Room k (A.deeper (envOfC x scope sh.heap.objs.size f cdv)) →
      ∃ t wt, WSs (cxOf CX0 P w K mg base N x scope f cdv A outer sh H E).nox body t wt ∧ ∀ us μ Q, s us μ Q → wt { nx := fun _ μ' => ∃ u2 μ2, Gv μ (.d .none) μ' u2 μ2 ∧ Q u2 μ2, rt := fun u μ' => ∃ u2 μ2, Gv μ u μ' u2 μ2 ∧ Q u2 μ2 } (start3 N us) μ) :
    C8.Cal P w K mg base (k + 1) x (sp3 K s) [] := by
  refine ⟨f, fd, ps, [], FunD.ok Fd S (fun vs H Q E h => ?_) (fun cdv A outer sh H vs Q E hr h => ?_), hmg, Fd.kp, hbind, .nil⟩
  · obtain ⟨us, F, G, μ, P, S, r, hs, q⟩ := h
    rw [r.length]
    exact len _ _ _ hs
  · obtain ⟨us, F, G, μ, Pz, S3, r, hs, q⟩ := h
    obtain ⟨t, wt, hw, hq⟩ := hbody cdv A outer sh H E hr
    refine ⟨t, PSs.nox hw.ps, hw.rs F G H μ (L2.start N vs) (start3 N us) _ _ (start_sim S3 r) ⟨?_, ?_, ?_, ?_⟩ (hq us μ Pz hs)⟩
    · rintro σ' G' H' ρ' μ' e S' ⟨u2, μ2, g, p⟩
      obtain ⟨G2, e2, S2, r2⟩ := g.go (v := .non) S'.st Rp.non
      exact q .non u2 G2 H' μ2 (e.trans e2) S2 r2 p
    · rintro v u G' H' μ' e S' r' ⟨u2, μ2, g, p⟩
      obtain ⟨G2, e2, S2, r2⟩ := g.go S' r'
      exact q v u2 G2 H' μ2 (e.trans e2) S2 r2 p
    · exact fun _ _ _ _ _ _ _ h => h.elim
    · exact fun _ _ _ _ _ _ _ h => h.elim
/-- a weaker promise -/
theorem cal_imp {k : Nat} {x : Str} {s s' : WF} (c : C8.Cal P w K mg base k x (sp3 K s) []) (h : ∀ us μ Q, s' us μ Q → s us μ Q) : C8.Cal P w K mg base k x (sp3 K s') [] := by
  obtain ⟨f, fd, ps, ds, F, hm, kp, b, d⟩ := c.ex
  refine ⟨f, fd, ps, ds, F.imp (fun vs H Q E ⟨us, F, G, μ, P, S, r, hs, q⟩ => ⟨us, F, G, μ, P, S, r, h _ _ _ hs, q⟩), hm, kp, b, d⟩
theorem cal_mono {j k : Nat} {x : Str} {s : Sp} (c : C8.Cal P w K mg base j x s []) (h : j ≤ k) : C8.Cal P w K mg base k x s [] := by
  obtain ⟨f, fd, ps, ds, F, hm, kp, b, d⟩ := c.ex
  exact ⟨f, fd, ps, ds, F.mono h, hm, kp, b, d⟩
end
end L3

/-! the least of two texts, the least of a list of texts with a default -/
namespace L3M
open PySem PySem.Spec PyProof.Rows L2
def ltS (x y : Str) : Bool := decide (x.cps.toList < y.cps.toList)
def leastS (z : Str) (zs : List Str) : Str := zs.foldl (fun m y => if ltS y m = true then y else m) z
theorem CmpOf_strs {prog : Program} {w : World} {A : Around} {P : Nat → Value → Prop} (val : Nat → Str) (hval : ∀ i v, P i v → ∃ t, v = .str (val i) t) :
    CmpOf prog w A .Lt P (fun i j => ltS (val i) (val j)) := fun i j vi vj s Q E hi hj h => by
  obtain ⟨t, rfl⟩ := hval i vi hi
  obtain ⟨u, rfl⟩ := hval j vj hj
  exact PyProof.Rows.lt_str (show Q (.bool (decide ((val i).cps.toList < (val j).cps.toList))) s from h)
section
variable {prog : Program} {w : World} {A : Around} {R : Result → Shared → Prop} {I : Addr} {fp wr : List Addr} {n : Nat} {P : Nat → Value → Prop} {St : Nat → Heap → Prop} {kw : List (Str × Value)}
theorem min_loop (W : Walks prog w A.in1 I fp wr n P St) (bt : Nat → Nat → Bool) (hcmp : CmpOf prog w A.in1 .Lt P bt) (S : Addr) (hSf : S ∉ fp) :
    ∀ (k j : Nat) (s : Shared) (vb : Value) (c : Nat), n - (j + 1) = k → j + 1 ≤ n → St (j + 1) s.heap → P (argBest bt j) vb →
    s.heap.get? S = some { cls := .type "list", dict := none, data := .seq #[vb, vb] c, slots := #[] } →
    (∀ v h' tk, P (argBest bt (n - 1)) v → (∀ b o, b ∉ wr → b ≠ S → s.heap.get? b = some o → h'.get? b = some o) → R (.ok (.ret v)) { s with heap := h', toks := tk }) →
    codeAny (model prog w) A (.builtin "min.loop" ⟨[.ref I, .none, .ref S], kw⟩) R s := by
  have hSw : S ∉ wr := fun h => hSf (W.sub _ h)
  have hname : (toString "min" ++ toString ".loop" : String) = "min.loop" := by decide
  intro k
  induction k with
  | zero =>
    intro j s vb c hk hj hst hPb hS hR
    have hin : j + 1 = n := by omega
    refine codeAny_builtin PySem.F.entry_min_loop ?_
    rw [Around.under_plainId PySem.F.plain_min_loop _]
    show wpAny _ A.in1 (seqItems? (.ref S) >>= _) _ _ s
    refine wpAny_bind (wpAny_seqItems hS rfl ?_)
    show wpAny _ A.in1 (tryCatch (pyNext (.ref I)) _ >>= _) _ _ s
    refine wpAny_bind (wpAny_tryCatch (W.done s _ _ (hin ▸ hst) fun h' tk hk' => ?_))
    have hS' := hk' S _ hSw hS
    show wpAny _ A.in1 (updateSeq S (fun _ => #[]) >>= _) _ _ _
    refine wpAny_bind ?_
    refine wpAny_updateSeq hS' rfl (wpAny_bind (wpAny_letGo (wpAny_pure ?_)))
    refine hR vb _ tk (by rw [← hin]; exact hPb) fun b o hbw hbS e => (Heap.get?_update_other _ _ (Ne.symm hbS)).trans (hk' b o hbw e)
  | succ k ih =>
    intro j s vb c hk hj hst hPb hS hR
    have hlt : j + 1 < n := by omega
    refine codeAny_builtin PySem.F.entry_min_loop ?_
    rw [Around.under_plainId PySem.F.plain_min_loop _]
    show wpAny _ A.in1 (seqItems? (.ref S) >>= _) _ _ s
    refine wpAny_bind (wpAny_seqItems hS rfl ?_)
    show wpAny _ A.in1 (tryCatch (pyNext (.ref I)) _ >>= _) _ _ s
    refine wpAny_bind (wpAny_tryCatch (W.item (j + 1) s _ _ hlt hst fun v h' tk hP hst' hk' => ?_))
    have hS' := hk' S _ hSw hS
    show wpAny _ A.in1 (tryCatch (holding [v, v] (richCompare .Lt v vb >>= _)) _ >>= _) _ _ _
    refine wpAny_bind (wpAny_tryCatch (wpAny_holding (wpAny_bind (hcmp (j + 1) (argBest bt j) v vb _ _ _ hP hPb ?_))))
    refine wpAny_bind (wpAny_holding (wpAny_truthy_bool ?_))
    refine wpAny_bind (wpAny_letGo (wpAny_pure ?_))
    cases hb : bt (j + 1) (argBest bt j) with
    | true =>
      simp only [if_true]
      refine wpAny_bind ?_
      refine wpAny_updateSeq hS' rfl (wpAny_bind (wpAny_letGo ?_))
      rw [hname]
      refine wpAny_pure ⟨plainId_quiet PySem.F.plain_min_loop _, ih (j + 1) _ v _ (by omega) hlt (W.frame _ _ _ hst' fun b hbf o e => ?_) (by simp only [argBest, hb, if_true]; exact hP) (Heap.get?_update_self _ hS' rfl)
        fun v' h'' tk'' hP' hk'' => ?_⟩
      · exact (Heap.get?_update_other _ _ (fun h : S = b => hSf (by rw [h]; exact hbf))).trans e
      · exact hR v' h'' tk'' hP' fun b o hbw hbS e => hk'' b o hbw hbS ((Heap.get?_update_other _ _ (Ne.symm hbS)).trans (hk' b o hbw e))
    | false =>
      simp only [Bool.false_eq_true, if_false]
      refine wpAny_bind (wpAny_letGo ?_)
      rw [hname]
      refine wpAny_pure ⟨plainId_quiet PySem.F.plain_min_loop _, ih (j + 1) _ vb c (by omega) hlt hst' (by simp only [argBest, hb, Bool.false_eq_true, if_false]; exact hPb) hS' fun v' h'' tk'' hP' hk'' => ?_⟩
      exact hR v' h'' tk'' hP' fun b o hbw hbS e => hk'' b o hbw hbS (hk' b o hbw e)
theorem min_loop_first (W : Walks prog w A.in1 I fp wr n P St) (bt : Nat → Nat → Bool) (hcmp : CmpOf prog w A.in1 .Lt P bt) (S : Addr) (hSf : S ∉ fp) (hn : 0 < n) {s : Shared} {c : Nat} (hst : St 0 s.heap)
    (hS : s.heap.get? S = some { cls := .type "list", dict := none, data := .seq #[] c, slots := #[] })
    (hR : ∀ v h' tk, P (argBest bt (n - 1)) v → (∀ b o, b ∉ wr → b ≠ S → s.heap.get? b = some o → h'.get? b = some o) → R (.ok (.ret v)) { s with heap := h', toks := tk }) :
    codeAny (model prog w) A (.builtin "min.loop" ⟨[.ref I, .none, .ref S], kw⟩) R s := by
  have hSw : S ∉ wr := fun h => hSf (W.sub _ h)
  have hname : (toString "min" ++ toString ".loop" : String) = "min.loop" := by decide
  refine codeAny_builtin PySem.F.entry_min_loop ?_
  rw [Around.under_plainId PySem.F.plain_min_loop _]
  show wpAny _ A.in1 (seqItems? (.ref S) >>= _) _ _ s
  refine wpAny_bind (wpAny_seqItems hS rfl ?_)
  show wpAny _ A.in1 (tryCatch (pyNext (.ref I)) _ >>= _) _ _ s
  refine wpAny_bind (wpAny_tryCatch (W.item 0 s _ _ hn hst fun v h' tk hP hst' hk' => ?_))
  have hS' := hk' S _ hSw hS
  show wpAny _ A.in1 (updateSeq S (fun _ => #[v, v]) >>= _) _ _ _
  refine wpAny_bind ?_
  refine wpAny_updateSeq hS' rfl ?_
  rw [hname]
  refine wpAny_pure ⟨plainId_quiet PySem.F.plain_min_loop _, min_loop W bt hcmp S hSf _ 0 _ v _ rfl hn (W.frame _ _ _ hst' fun b hbf o e => ?_) hP (Heap.get?_update_self _ hS' rfl) fun v' h'' tk'' hP' hk'' => ?_⟩
  · exact (Heap.get?_update_other _ _ (fun h : S = b => hSf (by rw [h]; exact hbf))).trans e
  · exact hR v' h'' tk'' hP' fun b o hbw hbS e => hk'' b o hbw hbS ((Heap.get?_update_other _ _ (Ne.symm hbS)).trans (hk' b o hbw e))
/-- nothing to walk: the default -/
theorem min_loop_none (W : Walks prog w A.in1 I fp wr n P St) (S : Addr) (hSf : S ∉ fp) (hn : n = 0) {s : Shared} {c : Nat} {d : Value} {x : Str} (hst : St 0 s.heap)
    (hS : s.heap.get? S = some { cls := .type "list", dict := none, data := .seq #[] c, slots := #[] })
    (hR : ∀ h' tk, (∀ b o, b ∉ wr → b ≠ S → s.heap.get? b = some o → h'.get? b = some o) → R (.ok (.ret d)) { s with heap := h', toks := tk }) :
    codeAny (model prog w) A (.builtin "min.loop" ⟨[.ref I, .none, .ref S], [(x, d)]⟩) R s := by
  subst hn
  refine codeAny_builtin PySem.F.entry_min_loop ?_
  rw [Around.under_plainId PySem.F.plain_min_loop _]
  show wpAny _ A.in1 (seqItems? (.ref S) >>= _) _ _ s
  refine wpAny_bind (wpAny_seqItems hS rfl ?_)
  show wpAny _ A.in1 (tryCatch (pyNext (.ref I)) _ >>= _) _ _ s
  refine wpAny_bind (wpAny_tryCatch (W.done s _ _ hst fun h' tk hk' => ?_))
  refine wpAny_bind (wpAny_rule (wpAny_pure ?_))
  exact hR h' tk fun b o hbw _ e => hk' b o hbw e
end
def strItems (xs : Array (Str × Tok)) : Array Value := xs.map fun p => .str p.1 p.2
def strAt (xs : Array (Str × Tok)) (i : Nat) : Str := (xs[i]?.map (·.1)).getD ⟨#[]⟩
theorem strItems_at {xs : Array (Str × Tok)} {i : Nat} {v : Value} (h : (strItems xs)[i]? = some v) : ∃ t, v = .str (strAt xs i) t := by
  simp only [strItems, Array.getElem?_map, Option.map_eq_some_iff] at h
  obtain ⟨p, hp, rfl⟩ := h
  exact ⟨p.2, by simp [strAt, hp]⟩
/-- the best place's text is the least by the fold -/
theorem best_least (f : Nat → Str) : ∀ k, f (argBest (fun i j => ltS (f i) (f j)) k) = leastS (f 0) ((List.range k).map fun i => f (i + 1))
  | 0 => rfl
  | k + 1 => by
    have ih := best_least f k
    have e : leastS (f 0) ((List.range (k + 1)).map fun i => f (i + 1)) = (if ltS (f (k + 1)) (leastS (f 0) ((List.range k).map fun i => f (i + 1))) = true then f (k + 1) else leastS (f 0) ((List.range k).map fun i => f (i + 1))) := by
      unfold leastS
      rw [List.range_succ, List.map_append, List.foldl_append]
      rfl
    rw [e, ← ih]
    show f (if ltS (f (k + 1)) (f (argBest (fun i j => ltS (f i) (f j)) k)) = true then k + 1 else argBest (fun i j => ltS (f i) (f j)) k) = _
    split <;> rfl
section
variable {prog : Program} {w : World} {A : Around} {E : Value → Shared → Prop} {s : Shared}
theorem min_two_strs {a b : Str} {t u : Tok} {Q : Value → Shared → Prop} (hh : A.handled = none)
    (h : ∀ h' tk v, (∀ c o, s.heap.get? c = some o → h'.get? c = some o) → (∃ t, v = .str (if ltS b a = true then b else a) t) → Q v { s with heap := h', toks := tk }) :
    wpAny (model prog w) A (call (.builtin "min") [.str a t, .str b u]) Q E s := by
  have hT : (s.heap.push { cls := .type "tuple", data := .seq #[.str a t, .str b u] }).IsTuple s.heap.objs.size (strItems #[(a, t), (b, u)]) := ⟨_, Heap.get?_push_size _ rfl, rfl, 0, by simp [strItems]⟩
  refine call_min_two (wpAny_pyIter_tuple hT ?_)
  have hsz : (s.heap.push { cls := .type "tuple", data := .seq #[.str a t, .str b u] }).objs.size = s.heap.objs.size + 1 := Heap.size_push ..
  refine ⟨_, [_, s.heap.objs.size], [_], _, _, _, _, rfl, Walks.tuple (A := A.in1) hh _ s.heap.objs.size (by rw [hsz]; exact Nat.ne_of_lt (Nat.lt_succ_self _)) (strItems #[(a, t), (b, u)]),
    ⟨⟨_, Heap.get?_push_size _ rfl, rfl, rfl⟩, hT.push _⟩, fun c hc => ?_, by simp [strItems], CmpOf_strs (strAt #[(a, t), (b, u)]) (fun _ _ => strItems_at), fun v h' tk hP hk => ?_⟩
  · show c < ((s.heap.push _).push _).objs.size
    rw [Heap.size_push, hsz]
    rcases List.mem_cons.mp hc with rfl | hc
    · rw [hsz]; exact Nat.lt_succ_self _
    · rcases List.mem_cons.mp hc with rfl | hc
      · exact Nat.lt_succ_of_lt (Nat.lt_succ_self _)
      · cases hc
  · have hold : ∀ c o, s.heap.get? c = some o → h'.get? c = some o := fun c o e => by
      refine hk c o (fun hm => ?_) (Heap.get?_push_of_some _ (Heap.get?_push_of_some _ e))
      rcases List.mem_cons.mp hm with e1 | hm
      · have := Heap.lt_size e; rw [e1, hsz] at this; exact Nat.lt_irrefl _ (Nat.lt_of_succ_lt this)
      · cases hm
    refine h h' tk v hold ?_
    obtain ⟨t', rfl⟩ := strItems_at hP
    refine ⟨t', ?_⟩
    have hsz2 : (strItems #[(a, t), (b, u)]).size - 1 = 1 := by simp [strItems]
    rw [hsz2, best_least (strAt #[(a, t), (b, u)])]
    rfl
theorem min_default {x : Value} {d : Value} {Q : Value → Shared → Prop}
    (h : wpAny (model prog w) A.in1 (pyIter x) (fun it s₂ => ∃ I fp wr n P St bt, it = .ref I ∧ Walks prog w A.in1 I fp wr n P St ∧ St 0 s₂.heap ∧ (∀ b ∈ fp, b < s₂.heap.objs.size) ∧ CmpOf prog w A.in1 .Lt P bt ∧
      (n = 0 → ∀ h' tk, (∀ b o, b ∉ wr → s₂.heap.get? b = some o → h'.get? b = some o) → Q d { s₂ with heap := h', toks := tk }) ∧
      (0 < n → ∀ v h' tk, P (argBest bt (n - 1)) v → (∀ b o, b ∉ wr → s₂.heap.get? b = some o → h'.get? b = some o) → Q v { s₂ with heap := h', toks := tk })) E s) :
    wpAny (model prog w) A (call (.builtin "min") [x] [(Str.ofString "default", d)]) Q E s := by
  have hname : (toString "min" ++ toString ".loop" : String) = "min.loop" := by decide
  refine wpAny_call (codeAny_call_builtin PySem.F.plain_min PySem.F.entry_min ?_)
  have ha : argsOk "min" ⟨[x], [(Str.ofString "default", d)]⟩ := by unfold argsOk; kernel_rfl
  simp only [checkBuiltinCall, PySem.F.kind_min]
  have main : wpAny (model prog w) A.in1 (Builtin.«min» ⟨[x], [(Str.ofString "default", d)]⟩) (fun fin s' => match fin with
      | .done f => (match (Except.ok f : Result) with | .ok (.ret v) => Q v s' | .ok _ => False | .error e => E e s')
      | .again c' => c'.quiet = true ∧ codeAny (model prog w) A c' (fun r s' => match r with | .ok (.ret v) => Q v s' | .ok _ => False | .error e => E e s') s') E s := by
    show wpAny _ A.in1 (Builtin.Builtins.bindParams "min" ["key", "default"] 0 ⟨[], [(Str.ofString "default", d)]⟩ >>= _) _ _ s
    refine wpAny_bind (wpAny_of_eq (show Builtin.Builtins.bindParams "min" ["key", "default"] 0 ⟨[], [(Str.ofString "default", d)]⟩ = pure [none, some d] from by kernel_rfl) ?_)
    refine wpAny_bind (wpAny_pure ?_)
    refine wpAny_bind (wpAny_mono h (fun it s₂ h₂ => ?_) fun _ _ e => e)
    obtain ⟨I, fp, wr, n, P, St, bt, rfl, W, hst, hfp, hcmp, h0, h1⟩ := h₂
    refine wpAny_bind (wpAny_newObj_type ?_)
    have hSf : s₂.heap.objs.size ∉ fp := fun hm => Nat.lt_irrefl _ (hfp _ hm)
    rw [hname]
    by_cases hn : n = 0
    · refine wpAny_pure ⟨plainId_quiet PySem.F.plain_min_loop _, min_loop_none W s₂.heap.objs.size hSf hn (W.frame _ _ _ hst fun b _ o e => Heap.get?_push_of_some _ e) (Heap.get?_push_size _ rfl) fun h' tk hk => ?_⟩
      exact h0 hn h' tk fun b o hbw e => hk b o hbw (Nat.ne_of_lt (Heap.lt_size e)) (Heap.get?_push_of_some _ e)
    · refine wpAny_pure ⟨plainId_quiet PySem.F.plain_min_loop _, min_loop_first W bt hcmp s₂.heap.objs.size hSf (by omega) (W.frame _ _ _ hst fun b _ o e => Heap.get?_push_of_some _ e) (Heap.get?_push_size _ rfl) fun v h' tk hP hk => ?_⟩
      exact h1 (by omega) v h' tk hP fun b o hbw e => hk b o hbw (Nat.ne_of_lt (Heap.lt_size e)) (Heap.get?_push_of_some _ e)
  cases hsig : Manifest.signature? "min" with
  | none => exact wpAny_pure main
  | some sig =>
    simp only [argsOk, hsig] at ha
    have h2 : Bind.checkArgs "min" sig ⟨[x], [(Str.ofString "default", d)]⟩ = pure () := ha
    show wpAny _ A.in1 (Bind.checkArgs "min" sig ⟨[x], [(Str.ofString "default", d)]⟩) _ _ s
    rw [h2]; exact wpAny_pure main
theorem iter_strList {l : Addr} {xs : Array (Str × Tok)} {Q : Value → Shared → Prop} (hl : s.heap.IsList l (strItems xs))
    (h : ∀ s₂ : Shared, s₂ = { s with heap := s.heap.push { cls := .type "list_iterator", data := .fields #[.ref l, .int 0 0] } } →
      (s₂.heap.IsListIter s.heap.objs.size l 0 ∧ s₂.heap.IsList l (strItems xs)) → (∀ b ∈ [s.heap.objs.size, l], b < s₂.heap.objs.size) → l ≠ s.heap.objs.size → Q (.ref s.heap.objs.size) s₂) :
    wpAny (model prog w) A (pyIter (.ref l)) Q E s := by
  have hlt : l < s.heap.objs.size := by obtain ⟨_, e, _⟩ := hl; exact Heap.lt_size e
  refine wpAny_pyIter_list hl (h _ rfl ⟨⟨_, Heap.get?_push_size _ rfl, rfl, rfl⟩, hl.push _⟩ (fun b hb => ?_) (Nat.ne_of_lt hlt))
  show b < (s.heap.push _).objs.size
  rw [Heap.size_push]
  rcases List.mem_cons.mp hb with rfl | hb
  · exact Nat.lt_succ_self _
  · rcases List.mem_cons.mp hb with rfl | hb
    · exact Nat.lt_succ_of_lt hlt
    · cases hb
theorem min_strList {l : Addr} {xs : Array (Str × Tok)} {d : Value} {Q : Value → Shared → Prop} (hh : A.handled = none) (hl : s.heap.IsList l (strItems xs))
    (h0 : xs.size = 0 → ∀ h' tk, (∀ b o, s.heap.get? b = some o → h'.get? b = some o) → Q d { s with heap := h', toks := tk })
    (h1 : 0 < xs.size → ∀ v h' tk, (∃ t, v = .str (leastS (strAt xs 0) ((List.range (xs.size - 1)).map fun i => strAt xs (i + 1))) t) → (∀ b o, s.heap.get? b = some o → h'.get? b = some o) → Q v { s with heap := h', toks := tk }) :
    wpAny (model prog w) A (call (.builtin "min") [.ref l] [(Str.ofString "default", d)]) Q E s := by
  refine min_default (iter_strList hl fun s₂ e st hfp hlI => ?_)
  subst e
  have kept : ∀ {h' : Heap}, (∀ b o, b ∉ [s.heap.objs.size] → (s.heap.push { cls := .type "list_iterator", data := .fields #[.ref l, .int 0 0] }).get? b = some o → h'.get? b = some o) → ∀ b o, s.heap.get? b = some o → h'.get? b = some o := fun {h'} hk b o e => by
    refine hk b o (fun hm => ?_) (Heap.get?_push_of_some _ e)
    rcases List.mem_cons.mp hm with e1 | hm
    · exact absurd (e1 ▸ Heap.lt_size e) (Nat.lt_irrefl _)
    · cases hm
  refine ⟨_, _, _, _, _, _, _, rfl, Walks.list (A := A.in1) hh _ l hlI (strItems xs), st, hfp, CmpOf_strs (strAt xs) (fun _ _ => strItems_at), fun hn h' tk hk => ?_, fun hn v h' tk hP hk => ?_⟩
  · exact h0 (by simpa [strItems] using hn) h' tk (kept hk)
  · have hz : (strItems xs).size = xs.size := by simp [strItems]
    rw [hz] at hn
    refine h1 hn v h' tk ?_ (kept hk)
    obtain ⟨t, rfl⟩ := strItems_at hP
    refine ⟨t, ?_⟩
    rw [hz, best_least (strAt xs)]
end
theorem strs_items : ∀ {zs : List Str} {its : List Value}, Vals (zs.map V.str) its → ∃ xs : List (Str × Tok), its = xs.map (fun p => Value.str p.1 p.2) ∧ xs.map (·.1) = zs
  | [], _, h => by cases h; exact ⟨[], rfl, rfl⟩
  | z :: zs, _, h => by
    cases h with
    | cons h t =>
      obtain ⟨t0, rfl⟩ := h
      obtain ⟨xs, rfl, e⟩ := strs_items t
      exact ⟨(z, t0) :: xs, rfl, by rw [List.map_cons, e]⟩
def minD : List Str → V → V
  | [], d => d
  | z :: zs, _ => .str (leastS z zs)
section
variable {X : Cx}
theorem call_minS (hc : X.calm = true) : CallR X (.builtin "min") (fun xs H Q => ∃ i j, xs = [.str i, .str j] ∧ Q (.str (if ltS j i = true then j else i)) H) := by
  intro pins s σ H xs us Q I r h
  obtain ⟨i, j, rfl, q⟩ := h
  obtain ⟨u, w', rfl, ⟨t, rfl⟩, ⟨t', rfl⟩⟩ := vals2 r
  exact min_two_strs (I.ok.hd hc) fun h' tk v k ⟨t2, e⟩ => ⟨.str _, H, I.kept k, ⟨t2, e⟩, q⟩
def rMinD (K : PySem.W.Frag) : List V → List V → Hp → VK → Prop := fun vs zs H Q => ∃ (a : Addr) (xs : List Str) (d : V), vs = [.ref a] ∧ zs = [d] ∧ SqL K H a (xs.map V.str) ∧ Q (minD xs d) H
theorem call_minD (hc : X.calm = true) : CallRK X (.builtin "min") [Str.ofString "default"] (rMinD X.K) := by
  intro pins s σ H vs zs us ws Q I r1 r2 h
  obtain ⟨a, xs, d, rfl, rfl, hs, q⟩ := h
  obtain ⟨its, rv, hl, _⟩ := I.list hs
  rw [Vals.ref1 r1]
  obtain ⟨dv, rfl, rd⟩ := vals1 r2
  obtain ⟨ps, rfl, e⟩ := strs_items rv
  have hl' : s.heap.IsList a (strItems ps.toArray) := by
    have e2 : (ps.map fun p => Value.str p.1 p.2).toArray = strItems ps.toArray := by unfold strItems; simp
    rw [← e2]; exact hl.isList
  show wpAny _ _ (call (.builtin "min") [.ref a] [(Str.ofString "default", dv)]) _ _ _
  refine min_strList (I.ok.hd hc) hl' (fun hz h' tk hk => ?_) (fun hz v h' tk ⟨t, e3⟩ hk => ?_)
  · have : ps = [] := by
      cases ps with
      | nil => rfl
      | cons _ _ => simp at hz
    subst this
    subst e
    exact ⟨d, H, I.kept hk, rd, q⟩
  · cases ps with
    | nil => simp at hz
    | cons p ps =>
      subst e
      refine ⟨.str _, H, I.kept hk, ⟨t, e3⟩, ?_⟩
      have e4 : leastS (strAt (p :: ps).toArray 0) ((List.range ((p :: ps).toArray.size - 1)).map fun i => strAt (p :: ps).toArray (i + 1)) = leastS p.1 (ps.map (·.1)) := by
        have e5 : (List.range ((p :: ps).toArray.size - 1)).map (fun i => strAt (p :: ps).toArray (i + 1)) = ps.map (·.1) := by
          apply List.ext_getElem
          · simp
          · intro i h1 h2
            simp at h1 h2
            simp [strAt, h2]
        rw [e5]
        rfl
      rw [e4]
      exact q
end
end L3M

namespace PySem.AutoSeq1
theorem list_extend_tupG (l : Addr) (items : Array Value) (n : Nat) (b : Addr) (items2 : Array Value) (n2 : Nat) (dd : Option Addr) (sl : Array (Option Value)) (hs0 : ¬(!items.isEmpty && Builtin.List.listTooLong (items.size + items2.size)) = true) (hs1 : items.size ≤ sizeLine) (hs2 : items.size + items2.size ≤ sizeLine + 1) :
    Meets (Builtin.«list.extend» ⟨[.ref l, .ref b], []⟩) (fun _ R s => s.heap.get? l = some { cls := .type "list", dict := none, data := .seq items n, slots := #[] } ∧ s.heap.get? b = some { cls := .type "tuple", dict := dd, data := .seq items2 n2, slots := sl } ∧ R (.ok (.ret Value.none)) { s with heap := s.heap.update l (Obj.mapSeq fun x => x ++ items2), toks := s.toks }) :=
  .of_wp fun prog w A R s h => by
    obtain ⟨hp, g, d, tk, os⟩ := s; obtain ⟨hl, hb, h⟩ := h; have f1 := idx_int; have f2 := sub_tuple_tuple; have f3 := sub_list_list; have f4 := sub_tuple_list; have f5 := sub_list_tuple;
    have hz' : (items ++ items2).size ≤ sizeLine + 1 := by rw [Array.size_append]; exact hs2
    wp_walk using (wpAny_updateSeq hl rfl (hz := hs1) (_hz' := hz')), wpAny_loadPart' hl, wpAny_loadPart' hb; exact ⟨_, rfl, h⟩
end PySem.AutoSeq1
namespace L3
open PySem PySem.Spec PyProof.Rows L2

/-! ### list.extend of a tuple -/
def rExtT (K : Fg) : V → List V → Hp → VK → Prop := fun x vs H Q => ∃ l b xs zs, x = .ref l ∧ vs = [.ref b] ∧ H l = some (.lst xs) ∧ SqT K H b zs ∧ xs.length + zs.length ≤ sizeLine ∧ Q .non (upd H l (.lst (xs ++ zs)))
theorem mt_extT {X : Cx} : MtM X "list.extend" (rExtT X.K) := by
  intro pins s σ H x vs v us Q I rx rv h
  obtain ⟨l, b, xs, zs, rfl, rfl, hH, hB, hz, q⟩ := h
  cases rx
  obtain ⟨u, rfl, ru⟩ := rv.one
  cases ru
  obtain ⟨z, its, n, r, hl, e⟩ := I.lstM hH
  obtain ⟨its2, r2, ⟨⟨cls, dd, data, sl⟩, e2, hc, n2, hd⟩, _⟩ := I.tuple hB
  simp only at hc hd
  subst hc hd
  have hl2 := r2.length
  have hsz : its.toArray.size + its2.toArray.size ≤ sizeLine := by rw [List.size_toArray, List.size_toArray]; omega
  have hlong : ¬ (!its.toArray.isEmpty && Builtin.List.listTooLong (its.toArray.size + its2.toArray.size)) = true := by
    rw [notLongL hsz, Bool.and_false]
    exact Bool.false_ne_true
  refine call_meets F.slot_list_extend ⟨_, e, rfl⟩ F.entry_list_extend (F.args_list_extend_2 _ _)
    (AutoSeq1.list_extend_tupG l its.toArray n b its2.toArray n2 dd sl hlong (by rw [List.size_toArray]; omega) (by omega)) ⟨e, e2, ?_⟩
  refine ⟨.non, _, I.lset (its' := its ++ its2) hH e (by simp) (r.append r2) ?_, rfl, q⟩
  rw [List.length_append]
  omega
theorem rm_extT {K : Fg} : RM K (rExtT K) mExtendT := fun F G H μ x vs u us P Q S rx rv ⟨a, ws, ds, e1, e2, h, z, p⟩ q => by
  subst e1 e2
  obtain ⟨v, rfl, q1⟩ := rus1 rv
  obtain ⟨xs, h1, h2⟩ := S.lst h
  obtain ⟨b, zs, rfl, t1, t2⟩ := rp_tup q1
  refine ⟨a, b, xs, zs, rx, rfl, h1, t1.sq S.sub, by rw [h2.length, t2.length]; exact z, ?_⟩
  exact q .non (.d .none) G _ _ (Ext.refl G) (S.write (m' := .lst (ws ++ ds.map U.d)) h ⟨xs ++ zs, upd_same, h2.append (rus_d t2)⟩) Rp.non p

/-! ### min of texts -/
def qMinS : WQ := fun us μ P => ∃ i j : Str, us = [.d (.str i), .d (.str j)] ∧ P (.d (.str (if L3M.ltS j i = true then j else i))) μ
def minDU : List Str → PyData → PyData
  | [], d => d
  | z :: zs, _ => .str (L3M.leastS z zs)
def wMinD (w : WL) (k : WL) : WX := fun ρ μ P => w ρ μ fun us μ1 => k ρ μ1 fun ks μ2 => ∃ (u : U) (xs : List Str) (d : PyData), us = [u] ∧ ks = [.d d] ∧ listU μ2 u = some (xs.map fun z => U.d (.str z)) ∧ P (.d (minDU xs d)) μ2
structure WK (X : Cx) (kws : List Keyword) (t : TA) (w : WL) : Prop where
  pk : PK X kws t
  ra : RA X.K t w
section
variable {K : Fg} {X : Cx} {pos p : Pos} {e : Expr} {es : List Expr} {t tk : TA} {w wk : WL} {x : Str}
theorem rq_minS : RQ K (fun xs H Q => ∃ i j, xs = [.str i, .str j] ∧ Q (.str (if L3M.ltS j i = true then j else i)) H) qMinS := fun F G H μ vs us P Q S r ⟨i, j, e, p⟩ q => by
  subst e
  obtain ⟨v, x, rfl, q1, q2⟩ := rus2 r
  rw [rp_str q1, rp_str q2]
  exact ⟨i, j, rfl, q _ (.d (.str _)) G H μ (Ext.refl G) S (Rp.str _) p⟩
theorem w_knil : WK X [] tNil wNil := ⟨pk_nil, ra_nil⟩
theorem w_kcons {nm : Option Str} {kpos : Pos} {kws : List Keyword} {te : TE} {we : WX} (h : WE X e te we) (k : WK X kws t w)
    (hp : PK X (⟨nm, e, kpos⟩ :: kws) (tCons te t)) : WK X (⟨nm, e, kpos⟩ :: kws) (tCons te t) (wCons we w) := ⟨hp, ra_cons h.re k.ra⟩
theorem re_minD (h : RA K t w) (k : RA K tk wk) : RE K (tCKw (L3M.rMinD K) t tk) (wMinD w wk) := fun F G H μ σ ρ P Q S x q => h F G H μ σ ρ _ _ S x fun vs us G1 H1 μ1 e1 S1 r1 p1 =>
  k F G1 H1 μ1 σ ρ _ _ (S.mono e1 S1) p1 fun zs ks G2 H2 μ2 e2 S2 r2 ⟨u, xs, d, eu, ek, hl, p2⟩ => by
    subst eu ek
    obtain ⟨v, rfl, q1⟩ := rus1 (r1.mono e2)
    obtain ⟨dv, rfl, q2⟩ := rus1 r2
    obtain ⟨a, ys, rfl, h1, h2⟩ := listU_ok S2 q1 hl
    rw [rus_map_str h2] at h1
    refine ⟨a, xs, dv, rfl, rfl, h1, ?_⟩
    refine q _ (.d (minDU xs d)) G2 H2 μ2 (e1.trans e2) S2 ?_ p2
    cases xs with
    | nil => exact q2
    | cons z zs => exact Rp.str _
theorem w_minD {kws : List Keyword} (hc : X.calm = true) (hg : Gl X x) (hm : X.mg x = none) (hv : bootBuiltins x = some (.builtin "min")) (ha : WAr X (e :: es) t w) (hk : WK X kws tk wk) (hn : x ≠ "__name__" := by decide) (hdb : (x == ("__debug__" : Str)) = false := by decide)
    (he : backTo pos (starEach (e :: es) X.env) = (false, eval e X.env) :: backTo pos (starEach es X.env) := by rfl) (hpl : (backTo pos (starEach (e :: es) X.env)).any (·.1) = false := by rfl)
    (hall : (backToKw pos (keywordEach kws X.env)).all (·.1.isSome) = true := by rfl) (hnone : (backToKw pos (keywordEach kws X.env)).any (·.1.isNone) = false := by rfl) (hks : (backToKw pos (keywordEach kws X.env)).filterMap (·.1) = [Str.ofString "default"] := by rfl) :
    WE X (.Call (.Name x p) (e :: es) kws pos) (tCKw (L3M.rMinD X.K) t tk) (wMinD w wk) := ⟨pe_callBK (L3M.call_minD hc) hg hm hv ha.pa hk.pk hn hdb he hpl hall hnone hks, re_minD ha.ra hk.ra⟩
end

/-! ### dicts that may change -/
def kU : Key → U
  | .inl i => .d (.int i)
  | .inr x => .d (.str x)
def putU (kvs : List (Key × U)) (k : Key) (v : U) : List (Key × U) :=
  if (kvs.any fun kv => decide (kv.1 = k)) = true then kvs.map (fun kv => if kv.1 = k then (kv.1, v) else kv) else kvs ++ [(k, v)]
def wDictN : WX := fun _ μ P => ∀ p, μ p = none → P (.r p) (put μ p (.dct []))
def wDPut (wd wk wv : WX) : WSt := fun B ρ μ => wv ρ μ fun v μ1 => wd ρ μ1 fun d μ2 => wk ρ μ2 fun k μ3 => ∃ a kvs y, d = .r a ∧ k = kU y ∧ μ3 a = some (.dct kvs) ∧ kvs.length < sizeLine ∧ B.nx ρ (put μ3 a (.dct (putU kvs y v)))
def qSortD : WQ := fun us μ P => ∃ (a : Addr) (kvs : List (Key × U)) (ks : List Str), us = [.r a] ∧ μ a = some (.dct kvs) ∧ kvs.map (·.1) = ks.map Sum.inr ∧ ks.length < 64 ∧ ∀ ys : List Str, ys.Perm ks → sortedS ys = true → P (.d (.list (ys.map .str))) μ
section
variable {K : Fg} {X : Cx} {pos : Pos}
theorem rkv_len {G : Hp} : ∀ {vs : List (Key × V)} {us : List (Key × U)}, Rkv K G vs us → vs.length = us.length
  | _, _, .nil => rfl
  | _, _, .cons _ t => congrArg Nat.succ (rkv_len t)
theorem rkv_keys {G : Hp} : ∀ {vs : List (Key × V)} {us : List (Key × U)}, Rkv K G vs us → vs.map (·.1) = us.map (·.1)
  | _, _, .nil => rfl
  | _, _, .cons _ t => by rw [List.map_cons, List.map_cons, rkv_keys t]
theorem rkv_any {G : Hp} {k : Key} : ∀ {vs : List (Key × V)} {us : List (Key × U)}, Rkv K G vs us → (vs.any fun kv => decide (kv.1 = k)) = us.any fun kv => decide (kv.1 = k)
  | _, _, .nil => rfl
  | _, _, .cons _ t => by rw [List.any_cons, List.any_cons, rkv_any t]
theorem rkv_map {G : Hp} {k : Key} {v : V} {u : U} (r : Ru K G v u) : ∀ {vs : List (Key × V)} {us : List (Key × U)}, Rkv K G vs us → Rkv K G (vs.map fun kv => if kv.1 = k then (kv.1, v) else kv) (us.map fun kv => if kv.1 = k then (kv.1, u) else kv)
  | _, _, .nil => .nil
  | _, _, .cons (k := j) h t => by
    rw [List.map_cons, List.map_cons]
    by_cases e : j = k
    · rw [if_pos e, if_pos e]; exact .cons r (rkv_map r t)
    · rw [if_neg e, if_neg e]; exact .cons h (rkv_map r t)
theorem rkv_app {G : Hp} {k : Key} {v : V} {u : U} (r : Ru K G v u) : ∀ {vs : List (Key × V)} {us : List (Key × U)}, Rkv K G vs us → Rkv K G (vs ++ [(k, v)]) (us ++ [(k, u)])
  | _, _, .nil => .cons r .nil
  | _, _, .cons h t => .cons h (rkv_app r t)
theorem rkv_put {G : Hp} {k : Key} {v : V} {u : U} (r : Ru K G v u) {vs : List (Key × V)} {us : List (Key × U)} (h : Rkv K G vs us) : Rkv K G (putK vs k v) (putU us k u) := by
  unfold putK putU
  rw [rkv_any h]
  split
  · exact rkv_map r h
  · exact rkv_app r h
theorem ru_key {G : Hp} {v : V} {k : Key} (h : Ru K G v (kU k)) : v = kV k := by
  cases k with
  | inl i => exact rp_int h
  | inr x => exact rp_str h
theorem w_dictN : WE X (.Dict [] [] pos) tDNewK wDictN := ⟨pe_dnewK, fun F G H μ σ ρ P Q S w q => fun p hp => q (.ref p) (.r p) G _ _ (Ext.refl G) (S.st.newM (m := .dct []) hp ⟨[], upd_same, .nil⟩) rfl (w p (S.st.mnone hp))⟩
theorem rs_dput {td ty tv : TE} {wd wk wv : WX} (hd : RE K td wd) (hk : RE K ty wk) (hv : RE K tv wv) : RS K (sDPut td ty tv) (wDPut wd wk wv) := fun F G H μ σ ρ D B S L w => hv F G H μ σ ρ _ _ S w fun v vu G1 H1 μ1 e1 S1 r1 p1 =>
  hd F G1 H1 μ1 σ ρ _ _ (S.mono e1 S1) p1 fun d du G2 H2 μ2 e2 S2 r2 p2 => hk F G2 H2 μ2 σ ρ _ _ (S.mono (e1.trans e2) S2) p2 fun k ku G3 H3 μ3 e3 S3 r3 ⟨a, kvs, y, ed, ek, hm, hz, p3⟩ => by
    subst ed ek
    obtain ⟨_, kws, h1, h2⟩ := S3.mu _ _ hm
    have rv : Ru K G3 v vu := (r1.mono e2).mono e3
    rw [ru_key r3]
    refine ⟨a, _, r2, DPut.k h1 (by rw [rkv_len h2]; exact hz), ?_⟩
    have S4 := S3.write (m' := .dct (putU kvs y vu)) hm ⟨putK kws y v, upd_same, rkv_put rv h2⟩
    exact L.nx σ G3 _ ρ _ ((e1.trans e2).trans e3) ((S.mono ((e1.trans e2).trans e3) S3).mono (Ext.refl _) S4) p3
theorem w_dput {o i value : Expr} {pos' : Pos} {td ty tv : TE} {wd wk wv : WX} (hu : X.A.units + 1 < cLine) (ho : WE X o td wd) (hi : WE X i ty wk) (hv : WE X value tv wv) (hs : swapsWith value (some (.Subscript o i pos')) pos.line X.env = pure false := by rfl) :
    WS X (.Assign [.Subscript o i pos'] value pos) (sDPut td ty tv) (wDPut wd wk wv) := ⟨ps_dput hu ho.pe hi.pe hv.pe hs, rs_dput ho.re hi.re hv.re⟩
theorem rq_sortD : RQ K (fun xs H Q => ∃ (a : Addr) (kvs : List (Key × V)) (ks : List Str), xs = [.ref a] ∧ Rd H a (.dK kvs) ∧ kvs.map (·.1) = ks.map Sum.inr ∧ ks.length < 64 ∧ ∀ ys p, ys.Perm ks → sortedS ys = true → H p = none → Q (.ref p) (upd H p (.lst (ys.map V.str)))) qSortD := fun F G H μ vs us P Q S r ⟨a, kvs, ks, e, hm, hk, hz, p⟩ q => by
  subst e
  obtain ⟨v, rfl, q1⟩ := rus1 r
  obtain ⟨_, kws, h1, h2⟩ := S.mu _ _ hm
  refine ⟨a, kws, ks, by rw [show v = .ref a from q1], .inl h1, by rw [rkv_keys h2]; exact hk, hz, fun zs l hp hso hl => ?_⟩
  obtain ⟨e2, S2⟩ := S.newG (o := .lst (zs.map V.str)) hl
  exact q (.ref l) (.d (.list (zs.map .str))) _ _ μ e2 S2 (Rp.lst (SqL.of upd_same) (rps_strs' zs)) (p zs hp hso)
end

/-! ### join -/
def wJoin (wo we : WX) : WX := fun ρ μ P => wo ρ μ fun o μ1 => ∃ a : Str, o = .d (.str a) ∧ we ρ μ1 fun u μ2 => ∃ ys : List Str, itemsU μ2 u = some (ys.map fun z => U.d (.str z)) ∧ (ys.map (·.length)).sum + ys.length * a.length ≤ 16777216 ∧ P (.d (.str (Txt.join a ys))) μ2
theorem w_join {X : Cx} {o e : Expr} {to te : TE} {wo we : WX} {apos pos : Pos} (ho : WE X o to wo) (he : WE X e te we) (hs : starEach [e] X.env = [(false, eval e X.env)] := by rfl) (hbase : attributeBase o "join" X.env (eval o X.env) = eval o X.env := by rfl) (hline : (apos.endLine == pos.line) = true := by rfl) :
    WE X (.Call (.Attribute o "join" apos) [e] [] pos) (tM1 (fun x xs H Q => ∃ a p, ∃ ys : List Str, x = .str a ∧ xs = [.ref p] ∧ (SqL X.K H p (ys.map V.str) ∨ SqT X.K H p (ys.map V.str)) ∧
      (ys.map (·.length)).sum + ys.length * a.length ≤ 16777216 ∧ Q (.str (Txt.join a ys)) H) to te) (wJoin wo we) :=
  ⟨pe_join ho.pe he.pe hs hbase hline, fun F G H μ σ ρ P Q S w q => ho.re F G H μ σ ρ _ _ S w fun v u G1 H1 μ1 e1 S1 r1 ⟨a, eo, p1⟩ => by
    subst eo
    refine ⟨⟨a, rp_str r1⟩, he.re F G1 H1 μ1 σ ρ _ _ (S.mono e1 S1) p1 fun v2 u2 G2 H2 μ2 e2 S2 r2 ⟨ys, hi, hz, p2⟩ => ?_⟩
    obtain ⟨b, vs, rfl, hs, r3⟩ := itemsU_ok S2 r2 hi
    rw [rus_map_str r3] at hs
    exact ⟨a, b, ys, rp_str r1, rfl, hs, hz, q (.str _) (.d (.str _)) G2 H2 μ2 (e1.trans e2) S2 (Rp.str _) p2⟩⟩
end L3

namespace L3
open PySem PySem.Spec PyProof.Rows L2

/-! ### one rule a sign, whatever the kinds -/
theorem ro_or {K : Fg} {r r' : R2} {s s' t : WR} (h : RO K r s) (h' : RO K r' s') (ht : ∀ u w μ P, t u w μ P → s u w μ P ∨ s' u w μ P) : RO K (fun x y H Q => r x y H Q ∨ r' x y H Q) t := fun F G H μ x y u w P Q S rx ry p q => by
  rcases ht u w μ P p with p | p
  · exact .inl (h F G H μ x y u w P Q S rx ry p q)
  · exact .inr (h' F G H μ x y u w P Q S rx ry p q)
theorem rq_or {K : Fg} {r r' : List V → Hp → VK → Prop} {s s' t : WQ} (h : RQ K r s) (h' : RQ K r' s') (ht : ∀ u μ P, t u μ P → s u μ P ∨ s' u μ P) : RQ K (fun x H Q => r x H Q ∨ r' x H Q) t := fun F G H μ vs us P Q S rx p q => by
  rcases ht us μ P p with p | p
  · exact .inl (h F G H μ vs us P Q S rx p q)
  · exact .inr (h' F G H μ vs us P Q S rx p q)
theorem rm_or {K : Fg} {r r' : V → List V → Hp → VK → Prop} {s s' t : WM} (h : RM K r s) (h' : RM K r' s') (ht : ∀ u us μ P, t u us μ P → s u us μ P ∨ s' u us μ P) : RM K (fun x vs H Q => r x vs H Q ∨ r' x vs H Q) t := fun F G H μ x vs u us P Q S rx rv p q => by
  rcases ht u us μ P p with p | p
  · exact .inl (h F G H μ x vs u us P Q S rx rv p q)
  · exact .inr (h' F G H μ x vs u us P Q S rx rv p q)
def sAdd : WR := fun u w μ P => match u, w with
  | .d (.int i), .d (.int j) => P (.d (.int (i + j))) μ
  | .d (.str i), .d (.str j) => i.length + j.length ≤ sizeLine ∧ P (.d (.str (i ++ j))) μ
  | u, w => sCatL u w μ P
def sCmp (fi : Int → Int → Bool) (fs : Str → Str → Bool) : WR := fun u w μ P => match u, w with
  | .d (.int i), .d (.int j) => P (.d (.bool (fi i j))) μ
  | .d (.str i), .d (.str j) => P (.d (.bool (fs i j))) μ
  | _, _ => False
def sEqA (f : Bool → Bool) : WR := fun u w μ P => match u, w with
  | .d (.int i), .d (.int j) => P (.d (.bool (f (decide (i = j))))) μ
  | .d (.str i), .d (.str j) => P (.d (.bool (f (decide (i = j))))) μ
  | .d (.bool i), .d (.bool j) => P (.d (.bool (f (decide (i = j))))) μ
  | u, w => sEq f u w μ P
def sInA (f : Bool → Bool) : WR := fun u w μ P => match u with
  | .d (.str _) => sInS f u w μ P
  | _ => sInI f u w μ P
def sEqS (f : Bool → Bool) : WR := fun u w μ P => (∃ i j, u = .d (.int i) ∧ w = .d (.int j) ∧ P (.d (.bool (f (decide (i = j))))) μ) ∨ (∃ i j, u = .d (.str i) ∧ w = .d (.str j) ∧ P (.d (.bool (f (decide (i = j))))) μ) ∨ (∃ i j, u = .d (.bool i) ∧ w = .d (.bool j) ∧ P (.d (.bool (f (decide (i = j))))) μ)
section
variable {K : Fg} {X : Cx} {pos : Pos} {a b : Expr} {ta tb : TE} {wa wb : WX}
theorem ro_eqS : RO K rEq (sEqS id) := fun F G H μ x y u w P Q S rx ry p q => by
  rcases p with ⟨i, j, e1, e2, p⟩ | ⟨i, j, e1, e2, p⟩ | ⟨i, j, e1, e2, p⟩ <;> subst e1 e2
  · rw [rp_int rx, rp_int ry]
    refine ⟨rfl, ?_⟩
    have e : decide (V.int i = V.int j) = decide (i = j) := by simp
    rw [e]; exact q _ (.d (.bool _)) G H μ (Ext.refl G) S (Rp.bl _) p
  · rw [rp_str rx, rp_str ry]
    refine ⟨rfl, ?_⟩
    have e : decide (V.str i = V.str j) = decide (i = j) := by simp
    rw [e]; exact q _ (.d (.bool _)) G H μ (Ext.refl G) S (Rp.bl _) p
  · rw [rp_bl rx, rp_bl ry]
    refine ⟨rfl, ?_⟩
    have e : decide (V.bl i = V.bl j) = decide (i = j) := by simp
    rw [e]; exact q _ (.d (.bool _)) G H μ (Ext.refl G) S (Rp.bl _) p
theorem ro_neS : RO K rNe (sEqS not) := fun F G H μ x y u w P Q S rx ry p q => by
  rcases p with ⟨i, j, e1, e2, p⟩ | ⟨i, j, e1, e2, p⟩ | ⟨i, j, e1, e2, p⟩ <;> subst e1 e2
  · rw [rp_int rx, rp_int ry]
    refine ⟨rfl, ?_⟩
    have e : decide (V.int i = V.int j) = decide (i = j) := by simp
    rw [e]; exact q _ (.d (.bool _)) G H μ (Ext.refl G) S (Rp.bl _) p
  · rw [rp_str rx, rp_str ry]
    refine ⟨rfl, ?_⟩
    have e : decide (V.str i = V.str j) = decide (i = j) := by simp
    rw [e]; exact q _ (.d (.bool _)) G H μ (Ext.refl G) S (Rp.bl _) p
  · rw [rp_bl rx, rp_bl ry]
    refine ⟨rfl, ?_⟩
    have e : decide (V.bl i = V.bl j) = decide (i = j) := by simp
    rw [e]; exact q _ (.d (.bool _)) G H μ (Ext.refl G) S (Rp.bl _) p
theorem eqA_cases {f : Bool → Bool} {u w : U} {μ : Mu} {P : XP} (h : sEqA f u w μ P) : sEqS f u w μ P ∨ sEq f u w μ P := by
  unfold sEqA at h
  split at h
  · exact .inl (.inl ⟨_, _, rfl, rfl, h⟩)
  · exact .inl (.inr (.inl ⟨_, _, rfl, rfl, h⟩))
  · exact .inl (.inr (.inr ⟨_, _, rfl, rfl, h⟩))
  · exact .inr h
structure WCp (X : Cx) (c : Expr) (t : TE) (w : WX) : Prop where
  e : WE X c t w
  t : WT X c (tB t) (wB w)
theorem w_cmpC {op : CmpOp} {r : R2} {s : WR} (ho : OpR X (compareOp op) r) (hr : RO X.K r s) (ha : WE X a ta wa) (hb : WE X b tb wb) (hm : behindInMarks op b = false) : WCp X (.Compare a [op] [b] pos) (tOp r ta tb) (wOp s wa wb) :=
  ⟨w_cmp ho hr ha hb hm, ⟨pt_cmpR ho ha.pe hb.pe hm, rt_B (re_op hr ha.re hb.re)⟩⟩
theorem w_eq (hu : X.A.units + 64 < cLine) (ha : WE X a ta wa) (hb : WE X b tb wb) : WCp X (.Compare a [.Eq] [b] pos) (tOp (fun x y H Q => rEq x y H Q ∨ rEqD X.K x y H Q) ta tb) (wOp (sEqA id) wa wb) :=
  w_cmpC (OpR.or op_eq (op_eqD hu)) (ro_or ro_eqS ro_eq fun _ _ _ _ => eqA_cases) ha hb (nomark _)
theorem w_ne (hu : X.A.units + 64 < cLine) (ha : WE X a ta wa) (hb : WE X b tb wb) : WCp X (.Compare a [.NotEq] [b] pos) (tOp (fun x y H Q => rNe x y H Q ∨ rNeD X.K x y H Q) ta tb) (wOp (sEqA not) wa wb) :=
  w_cmpC (OpR.or op_ne (op_neD hu)) (ro_or ro_neS ro_ne fun _ _ _ _ => eqA_cases) ha hb (nomark _)
theorem cmp_cases {fi : Int → Int → Bool} {fs : Str → Str → Bool} {u w : U} {μ : Mu} {P : XP} (h : sCmp fi fs u w μ P) : sI0 (fun i j => .bool (fi i j)) u w μ P ∨ sS (fun i j => .bool (fs i j)) u w μ P := by
  unfold sCmp at h
  split at h
  · exact .inl ⟨_, _, rfl, rfl, h⟩
  · exact .inr ⟨_, _, rfl, rfl, h⟩
  · exact h.elim
abbrev sLt : WR := sCmp (fun i j => decide (i < j)) (fun i j => decide (i.cps.toList < j.cps.toList))
abbrev sGt : WR := sCmp (fun i j => decide (j < i)) (fun i j => decide (j.cps.toList < i.cps.toList))
abbrev sLe : WR := sCmp (fun i j => decide (i ≤ j)) (fun i j => !decide (j.cps.toList < i.cps.toList))
abbrev sGe : WR := sCmp (fun i j => decide (j ≤ i)) (fun i j => !decide (i.cps.toList < j.cps.toList))
def w_lt (ha : WE X a ta wa) (hb : WE X b tb wb) := show WCp X (.Compare a [.Lt] [b] pos) _ (wOp sLt wa wb) from w_cmpC (OpR.or op_lt op_lt_str) (ro_or (ro_I0 fun _ _ _ => .bl _) (ro_S (gv := fun i j => .bl (decide (i.cps.toList < j.cps.toList))) fun _ _ _ => .bl _) fun _ _ _ _ => cmp_cases) ha hb (nomark _)
def w_gt (ha : WE X a ta wa) (hb : WE X b tb wb) := show WCp X (.Compare a [.Gt] [b] pos) _ (wOp sGt wa wb) from w_cmpC (OpR.or op_gt op_gt_str) (ro_or (ro_I0 fun _ _ _ => .bl _) (ro_S (gv := fun i j => .bl (decide (j.cps.toList < i.cps.toList))) fun _ _ _ => .bl _) fun _ _ _ _ => cmp_cases) ha hb (nomark _)
def w_le (ha : WE X a ta wa) (hb : WE X b tb wb) := show WCp X (.Compare a [.LtE] [b] pos) _ (wOp sLe wa wb) from w_cmpC (OpR.or op_le op_le_str) (ro_or (ro_I0 fun _ _ _ => .bl _) (ro_S (gv := fun i j => .bl (!decide (j.cps.toList < i.cps.toList))) fun _ _ _ => .bl _) fun _ _ _ _ => cmp_cases) ha hb (nomark _)
def w_ge (ha : WE X a ta wa) (hb : WE X b tb wb) := show WCp X (.Compare a [.GtE] [b] pos) _ (wOp sGe wa wb) from w_cmpC (OpR.or op_ge op_ge_str) (ro_or (ro_I0 fun _ _ _ => .bl _) (ro_S (gv := fun i j => .bl (!decide (i.cps.toList < j.cps.toList))) fun _ _ _ => .bl _) fun _ _ _ _ => cmp_cases) ha hb (nomark _)
theorem inA_cases {f : Bool → Bool} {u w : U} {μ : Mu} {P : XP} (h : sInA f u w μ P) : sInS f u w μ P ∨ sInI f u w μ P := by
  unfold sInA at h
  split at h
  · exact .inl h
  · exact .inr h
theorem or_same {f : Value → Value → Sem Value} {r : R2} (h : OpR X f r) : OpR X f (fun x y H Q => r x y H Q ∨ r x y H Q) := OpR.or h h
def w_in (ha : WE X a ta wa) (hb : WE X b tb wb) (hm : behindInMarks .In b = false := by rfl) := show WCp X (.Compare a [.In] [b] pos) _ (wOp (sInA id) wa wb) from w_cmpC (or_same op_in_seq) (ro_or (ro_inS (neg := false)) (ro_inI (neg := false)) fun _ _ _ _ h => inA_cases h) ha hb hm
def w_notin (ha : WE X a ta wa) (hb : WE X b tb wb) (hm : behindInMarks .NotIn b = false := by rfl) := show WCp X (.Compare a [.NotIn] [b] pos) _ (wOp (sInA not) wa wb) from w_cmpC (or_same op_notIn_seq) (ro_or (ro_inS (neg := true)) (ro_inI (neg := true)) fun _ _ _ _ h => inA_cases h) ha hb hm
def w_isB {c : Bool} {j : Nat} {p2 : Pos} (ha : WE X a ta wa) := show WCp X (.Compare a [.Is] [.Constant (.bool c) j p2] pos) _ (wOp (sIs c id) wa (wC (.bool c))) from w_cmpC (op_isB (b := c)) (ro_isB (b := c) (f := id)) ha (w_bl (b := c) (j := j) (pos := p2)) (nomark _)
def w_isnotB {c : Bool} {j : Nat} {p2 : Pos} (ha : WE X a ta wa) := show WCp X (.Compare a [.IsNot] [.Constant (.bool c) j p2] pos) _ (wOp (sIs c not) wa (wC (.bool c))) from w_cmpC (op_isnotB (b := c)) (ro_isB (b := c) (f := not)) ha (w_bl (b := c) (j := j) (pos := p2)) (nomark _)
def w_isN {j : Nat} {p2 : Pos} (ha : WE X a ta wa) := show WCp X (.Compare a [.Is] [.Constant .none j p2] pos) _ (wOp (sIsN id) wa (wC .none)) from w_cmpC op_isN ro_isN ha w_non (nomark _)
def w_isnotN {j : Nat} {p2 : Pos} (ha : WE X a ta wa) := show WCp X (.Compare a [.IsNot] [.Constant .none j p2] pos) _ (wOp (sIsN not) wa (wC .none)) from w_cmpC op_notN ro_notN ha w_non (nomark _)
theorem add_cases {u w : U} {μ : Mu} {P : XP} (h : sAdd u w μ P) : sI0 (fun i j => .int (i + j)) u w μ P ∨ (sCatS u w μ P ∨ sCatL u w μ P) := by
  unfold sAdd at h
  split at h
  · exact .inl ⟨_, _, rfl, rfl, h⟩
  · exact .inr (.inl ⟨_, _, rfl, rfl, h.1, h.2⟩)
  · exact .inr (.inr h)
def w_add (ha : WE X a ta wa) (hb : WE X b tb wb) := show WE X (.BinOp a .Add b pos) _ (wOp sAdd wa wb) from w_bin (OpR.or op_add (OpR.or op_add_str op_catW)) (ro_or (ro_I0 fun _ _ _ => .int _) (ro_or ro_catS ro_catL (t := fun u w μ P => sCatS u w μ P ∨ sCatL u w μ P) fun _ _ _ _ h => h) fun _ _ _ _ => add_cases) ha hb
abbrev sSub : WR := sI0 fun i j => .int (i - j)
abbrev sMul : WR := sI CMul fun i j => .int (i * j)
abbrev sFdiv : WR := sI CDivN fun i j => .int (i.fdiv j)
abbrev sMod : WR := sI (fun _ j => 0 < j) fun i j => .int (i % j)
abbrev sPow : WR := sI CPow fun i j => .int (i ^ j.toNat)
abbrev sShl : WR := sI CPow fun i j => .int (i * 2 ^ j.toNat)
abbrev sShr : WR := sI (fun _ j => 0 ≤ j) fun i j => .int (i / 2 ^ j.toNat)
abbrev sBand : WR := sI0 fun i j => .int (Builtin.bitAnd i j)
def w_sub (ha : WE X a ta wa) (hb : WE X b tb wb) := show WE X (.BinOp a .Sub b pos) _ (wOp sSub wa wb) from w_bin op_sub (ro_I0 fun _ _ _ => .int _) ha hb
def w_mul (ha : WE X a ta wa) (hb : WE X b tb wb) := show WE X (.BinOp a .Mult b pos) _ (wOp sMul wa wb) from w_bin op_mul (ro_I fun _ _ _ => .int _) ha hb
def w_fdiv (ha : WE X a ta wa) (hb : WE X b tb wb) := show WE X (.BinOp a .FloorDiv b pos) _ (wOp sFdiv wa wb) from w_bin op_fdivN (ro_I fun _ _ _ => .int _) ha hb
def w_mod (ha : WE X a ta wa) (hb : WE X b tb wb) := show WE X (.BinOp a .Mod b pos) _ (wOp sMod wa wb) from w_bin op_mod (ro_I fun _ _ _ => .int _) ha hb
def w_pow (ha : WE X a ta wa) (hb : WE X b tb wb) := show WE X (.BinOp a .Pow b pos) _ (wOp sPow wa wb) from w_bin op_pow (ro_I fun _ _ _ => .int _) ha hb
def w_shl (ha : WE X a ta wa) (hb : WE X b tb wb) := show WE X (.BinOp a .LShift b pos) _ (wOp sShl wa wb) from w_bin op_shl (ro_I fun _ _ _ => .int _) ha hb
def w_shr (ha : WE X a ta wa) (hb : WE X b tb wb) := show WE X (.BinOp a .RShift b pos) _ (wOp sShr wa wb) from w_bin op_shr (ro_I fun _ _ _ => .int _) ha hb
def w_band (ha : WE X a ta wa) (hb : WE X b tb wb) := show WE X (.BinOp a .BitAnd b pos) _ (wOp sBand wa wb) from w_bin op_and (ro_I0 fun _ _ _ => .int _) ha hb
def wNeg (w : WX) : WX := fun ρ μ P => w ρ μ fun u μ1 => ∃ i, u = .d (.int i) ∧ P (.d (.int (-i))) μ1
theorem w_neg (ha : WE X a ta wa) : WE X (.UnaryOp .USub a pos) (tUn (rU fun i => .int (-i)) ta) (wNeg wa) := ⟨pe_un un_neg ha.pe, fun F G H μ σ ρ P Q S w q => ha.re F G H μ σ ρ _ _ S w fun v u G1 H1 μ1 e1 S1 r1 ⟨i, e, p⟩ => by
  subst e
  exact ⟨i, rp_int r1, q (.int (-i)) (.d (.int (-i))) G1 H1 μ1 e1 S1 (Rp.int _) p⟩⟩
end

/-! ### truth of any thing -/
def truU (μ : Mu) : U → Option Bool
  | .d .none => some false
  | .d (.bool b) => some b
  | .d (.int i) => some (i != 0)
  | .d (.list l) => some (!l.isEmpty)
  | .d (.tuple l) => some (!l.isEmpty)
  | .r a => (match μ a with
    | some (.lst us) => some (!us.isEmpty)
    | some (.dct us) => some (!us.isEmpty)
    | _ => none)
  | _ => none
def wTru (a : WX) : WB := fun ρ μ P => a ρ μ fun x μ1 => ∃ b, truU μ1 x = some b ∧ P b μ1
section
variable {K : Fg} {X : Cx} {pos : Pos} {a : Expr} {ta : TE} {wa : WX}
theorem rt_tru (h : RE K ta wa) : RT K (fun σ H Q => ta σ H fun x H' => ∃ k, TruV K x H' k ∧ Q k H') (wTru wa) := fun F G H μ σ ρ P Q S w q => h F G H μ σ ρ _ _ S w fun v u G1 H1 μ1 e1 S1 r1 ⟨b, hb, p⟩ => by
  refine ⟨b, ?_, q b G1 H1 μ1 e1 S1 p⟩
  cases u with
  | d z =>
    cases z with
    | none => rw [rp_non r1]; exact (Option.some.inj hb).symm
    | bool c => rw [rp_bl r1]; exact (Option.some.inj hb).symm
    | int c => rw [rp_int r1]; exact (Option.some.inj hb).symm
    | str c => cases hb
    | list l =>
      obtain ⟨x, vs, rfl, h1, h2⟩ := rp_lst r1
      exact .inl ⟨vs, sqlE S1.sub h1, by rw [isEmpty_len h2.length]; exact (Option.some.inj hb).symm⟩
    | tuple l =>
      obtain ⟨x, vs, rfl, h1, h2⟩ := rp_tup r1
      exact .inr (.inl ⟨vs, h1.sq S1.sub, by rw [isEmpty_len h2.length]; exact (Option.some.inj hb).symm⟩)
    | dict l => cases hb
  | r x =>
    have hb' : (match μ1 x with
      | some (.lst us) => some (!us.isEmpty)
      | some (.dct us) => some (!us.isEmpty)
      | _ => none) = some b := hb
    rw [show v = .ref x from r1]
    cases hm : μ1 x with
    | none => rw [hm] at hb'; cases hb'
    | some m =>
      rw [hm] at hb'
      cases m with
      | lst us =>
        obtain ⟨vs, h1, h2⟩ := S1.lst hm
        exact .inl ⟨vs, SqL.of h1, by rw [isEmpty_len h2.length]; exact (Option.some.inj hb').symm⟩
      | dct us =>
        obtain ⟨_, kws, h1, h2⟩ := S1.mu _ _ hm
        exact .inr (.inr ⟨kws, h1, by rw [isEmpty_len (rkv_len h2)]; exact (Option.some.inj hb').symm⟩)
      | hand => cases hb'
      | tab q => cases hb'
      | lck o kws kvs => cases hb'
theorem w_tru (h : WE X a ta wa) (he : ∀ whole, isTrue a X.env whole = (do let v ← whole; standAt a.pos; holding [v] (truthy v)) := by intro _; rfl) : WT X a (fun σ H Q => ta σ H fun x H' => ∃ k, TruV X.K x H' k ∧ Q k H') (wTru wa) := ⟨pt_truth h.pe he, rt_tru h.re⟩
end

/-! ### built-in calls, whatever the kinds -/
def qLenA : WQ := fun us μ P => match us with
  | [.d (.str z)] => z.length ≤ sizeLine ∧ P (.d (.int (z.length : Int))) μ
  | us => qLen us μ P
def qMinA : WQ := fun us μ P => match us with
  | [.d (.int i), .d (.int j)] => P (.d (.int (if j < i then j else i))) μ
  | us => qMinS us μ P
def isDct (μ : Mu) : U → Bool
  | .r a => (match μ a with
    | some (.dct _) => true
    | _ => false)
  | _ => false
def qSortA : WQ := fun us μ P => match us with
  | [u] => if isDct μ u = true then qSortD us μ P else qSortS us μ P
  | _ => False
section
variable {K : Fg} {X : Cx} {pos p : Pos} {e : Expr} {es : List Expr} {t : TA} {w : WL} {x : Str}
theorem or_Q {f : Value} {r r' : List V → Hp → VK → Prop} (h : CallR X f r) (h' : CallR X f r') : CallR X f (fun xs H Q => r xs H Q ∨ r' xs H Q) := CallR.or h h'
def w_len (hg : Gl X "len") (hm : X.mg "len" = none) (ha : WAr X (e :: es) t w) (he : starEach (e :: es) X.env = (false, eval e X.env) :: starEach es X.env := by rfl) (hpl : (backTo pos (starEach es X.env)).any (·.1) = false := by rfl) := show WE X (.Call (.Name "len" p) (e :: es) [] pos) _ (wQ qLenA w) from w_qb (or_Q call_len_seq call_len_str) (rq_or rq_len rq_lenS (t := qLenA) fun us μ P h => by
      unfold qLenA at h
      split at h
      · exact .inr ⟨_, rfl, h.1, h.2⟩
      · exact .inl h) hg hm boot_len ha (by decide) (by decide) he hpl
def w_abs (hg : Gl X "abs") (hm : X.mg "abs" = none) (ha : WAr X (e :: es) t w) (he : starEach (e :: es) X.env = (false, eval e X.env) :: starEach es X.env := by rfl) (hpl : (backTo pos (starEach es X.env)).any (·.1) = false := by rfl) := show WE X (.Call (.Name "abs" p) (e :: es) [] pos) _ (wQ qAbs w) from w_qb call_abs rq_abs hg hm boot_abs ha (by decide) (by decide) he hpl
theorem boot_min' : bootBuiltins "min" = some (.builtin "min") := by decide +kernel
theorem boot_max' : bootBuiltins "max" = some (.builtin "max") := by decide +kernel
theorem boot_int' : bootBuiltins "int" = some (.type "int") := by decide +kernel
theorem boot_str' : bootBuiltins "str" = some (.type "str") := by decide +kernel
theorem boot_list' : bootBuiltins "list" = some (.type "list") := by decide +kernel
theorem boot_tuple' : bootBuiltins "tuple" = some (.type "tuple") := by decide +kernel
theorem boot_bool' : bootBuiltins "bool" = some (.type "bool") := by decide +kernel
def w_min (hc : X.calm = true) (hg : Gl X "min") (hm : X.mg "min" = none) (ha : WAr X (e :: es) t w) (he : starEach (e :: es) X.env = (false, eval e X.env) :: starEach es X.env := by rfl) (hpl : (backTo pos (starEach es X.env)).any (·.1) = false := by rfl) := show WE X (.Call (.Name "min" p) (e :: es) [] pos) _ (wQ qMinA w) from w_qb (or_Q (call_min2 hc) (L3M.call_minS hc)) (rq_or rq_min2 rq_minS (t := qMinA) fun us μ P h => by
      unfold qMinA at h
      split at h
      · exact .inl ⟨_, _, rfl, h⟩
      · exact .inr h) hg hm boot_min' ha (by decide) (by decide) he hpl
def w_max (hc : X.calm = true) (hg : Gl X "max") (hm : X.mg "max" = none) (ha : WAr X (e :: es) t w) (he : starEach (e :: es) X.env = (false, eval e X.env) :: starEach es X.env := by rfl) (hpl : (backTo pos (starEach es X.env)).any (·.1) = false := by rfl) := show WE X (.Call (.Name "max" p) (e :: es) [] pos) _ (wQ qMax2 w) from w_qb (call_max2 hc) rq_max2 hg hm boot_max' ha (by decide) (by decide) he hpl
def w_sorted (hc : X.calm = true) (hg : Gl X "sorted") (hm : X.mg "sorted" = none) (ha : WAr X (e :: es) t w) (he : starEach (e :: es) X.env = (false, eval e X.env) :: starEach es X.env := by rfl) (hpl : (backTo pos (starEach es X.env)).any (·.1) = false := by rfl) := show WE X (.Call (.Name "sorted" p) (e :: es) [] pos) _ (wQ qSortA w) from w_qb (or_Q cr_sortedS (call_sortedD hc)) (rq_or rq_sortS rq_sortD (t := qSortA) fun us μ P h => by
      unfold qSortA at h
      split at h
      · split at h
        · exact .inr h
        · exact .inl h
      · exact h.elim) hg hm boot_sorted ha (by decide) (by decide) he hpl
def w_intc (hg : Gl X "int") (hm : X.mg "int" = none) (ha : WAr X (e :: es) t w) (he : starEach (e :: es) X.env = (false, eval e X.env) :: starEach es X.env := by rfl) (hpl : (backTo pos (starEach es X.env)).any (·.1) = false := by rfl) := show WE X (.Call (.Name "int" p) (e :: es) [] pos) _ (wQ qInt w) from w_qt call_int1 rq_int hg hm boot_int' ha (by decide) (by decide) he hpl
def w_strc (hg : Gl X "str") (hm : X.mg "str" = none) (ha : WAr X (e :: es) t w) (he : starEach (e :: es) X.env = (false, eval e X.env) :: starEach es X.env := by rfl) (hpl : (backTo pos (starEach es X.env)).any (·.1) = false := by rfl) := show WE X (.Call (.Name "str" p) (e :: es) [] pos) _ (wQ qStr w) from w_qt call_str_int rq_str hg hm boot_str' ha (by decide) (by decide) he hpl
def w_listc (hg : Gl X "list") (hm : X.mg "list" = none) (ha : WAr X (e :: es) t w) (he : starEach (e :: es) X.env = (false, eval e X.env) :: starEach es X.env := by rfl) (hpl : (backTo pos (starEach es X.env)).any (·.1) = false := by rfl) := show WE X (.Call (.Name "list" p) (e :: es) [] pos) _ (wQ qList w) from w_qt call_list_of rq_list hg hm boot_list' ha (by decide) (by decide) he hpl
def w_listcM (hg : Gl X "list") (hm : X.mg "list" = none) (ha : WAr X (e :: es) t w) (he : starEach (e :: es) X.env = (false, eval e X.env) :: starEach es X.env := by rfl) (hpl : (backTo pos (starEach es X.env)).any (·.1) = false := by rfl) := show WE X (.Call (.Name "list" p) (e :: es) [] pos) _ (wQ qListM w) from w_qt call_list_of rq_listM hg hm boot_list' ha (by decide) (by decide) he hpl
def w_tuplec (hg : Gl X "tuple") (hm : X.mg "tuple" = none) (ha : WAr X (e :: es) t w) (he : starEach (e :: es) X.env = (false, eval e X.env) :: starEach es X.env := by rfl) (hpl : (backTo pos (starEach es X.env)).any (·.1) = false := by rfl) := show WE X (.Call (.Name "tuple" p) (e :: es) [] pos) _ (wQ qTuple w) from w_qt call_tupX rq_tuple hg hm boot_tuple' ha (by decide) (by decide) he hpl
end
/-! ### methods -/
def mPopA : WM := mPop
def mExtL : WM := fun u vs μ P => ∃ (a b : Addr) (us : List U) (ws : List U), u = .r a ∧ vs = [.r b] ∧ μ a = some (.lst us) ∧ μ b = some (.lst ws) ∧ us.length + ws.length ≤ sizeLine ∧ P (.d .none) (put μ a (.lst (us ++ ws)))
def mExtF : WM := fun u vs μ P => ∃ (a : Addr) (us : List U) (ds : List PyData), u = .r a ∧ vs = [.d (.list ds)] ∧ μ a = some (.lst us) ∧ us.length + ds.length ≤ sizeLine ∧ P (.d .none) (put μ a (.lst (us ++ ds.map .d)))
def mExtend : WM := fun u vs μ P => match vs with
  | [.d (.tuple _)] => mExtendT u vs μ P
  | _ => False
section
variable {K : Fg} {X : Cx} {pos apos cpos p : Pos} {o e : Expr} {es : List Expr} {to te : TE} {wo we : WX} {t : TA} {w : WL}
def w_append (ho : WE X o to wo) (ha : WAr X [e] t w)
    (hbase : attributeBase o "append" X.env (eval o X.env) = eval o X.env := by rfl)
    (hfew : ((backTo cpos (starEach [e] X.env)).all (fun x => !x.1) && (backToKw cpos (keywordEach [] X.env)).all (fun x => x.1.isSome)
      && decide (([e] : List Expr).length + ([] : List Keyword).length + (if ([] : List Keyword).isEmpty then 0 else 1) < 30)) = true := by rfl)
    (hline : (apos.endLine == cpos.line) = true := by rfl) (hs : starEach [e] X.env = (false, eval e X.env) :: starEach [] X.env := by rfl) (hplain : (backTo cpos (starEach [] X.env)).any (·.1) = false := by rfl) := show WE X (.Call (.Attribute o "append" apos) [e] [] cpos) _ (wML mAppend wo w) from w_bm PySem.F.slot_list_append PySem.F.type_list_append mt_append rm_append ho ha hbase hfew hline hs hplain
def w_extend (ho : WE X o to wo) (ha : WAr X [e] t w)
    (hbase : attributeBase o "extend" X.env (eval o X.env) = eval o X.env := by rfl)
    (hfew : ((backTo cpos (starEach [e] X.env)).all (fun x => !x.1) && (backToKw cpos (keywordEach [] X.env)).all (fun x => x.1.isSome)
      && decide (([e] : List Expr).length + ([] : List Keyword).length + (if ([] : List Keyword).isEmpty then 0 else 1) < 30)) = true := by rfl)
    (hline : (apos.endLine == cpos.line) = true := by rfl) (hs : starEach [e] X.env = (false, eval e X.env) :: starEach [] X.env := by rfl) (hplain : (backTo cpos (starEach [] X.env)).any (·.1) = false := by rfl) := show WE X (.Call (.Attribute o "extend" apos) [e] [] cpos) _ (wML mExtend wo w) from w_bm PySem.F.slot_list_extend PySem.F.type_list_extend (MtR.or mt_extT mt_extT) (rm_or rm_extT rm_extT (t := mExtend) fun u us μ P h => by
      unfold mExtend at h
      split at h
      · exact .inl h
      · exact h.elim) ho ha hbase hfew hline hs hplain
def w_popAt (ho : WE X o to wo) (ha : WAr X [e] t w)
    (hbase : attributeBase o "pop" X.env (eval o X.env) = eval o X.env := by rfl)
    (hfew : ((backTo cpos (starEach [e] X.env)).all (fun x => !x.1) && (backToKw cpos (keywordEach [] X.env)).all (fun x => x.1.isSome)
      && decide (([e] : List Expr).length + ([] : List Keyword).length + (if ([] : List Keyword).isEmpty then 0 else 1) < 30)) = true := by rfl)
    (hline : (apos.endLine == cpos.line) = true := by rfl) (hs : starEach [e] X.env = (false, eval e X.env) :: starEach [] X.env := by rfl) (hplain : (backTo cpos (starEach [] X.env)).any (·.1) = false := by rfl) := show WE X (.Call (.Attribute o "pop" apos) [e] [] cpos) _ (wML mPopAt wo w) from w_bm PySem.F.slot_list_pop PySem.F.type_list_pop mt_popAt rm_popAt ho ha hbase hfew hline hs hplain
def w_pop (ho : WE X o to wo) (hbase : attributeBase o "pop" X.env (eval o X.env) = eval o X.env := by rfl) (hline : (apos.endLine == cpos.line) = true := by rfl) := show WE X (.Call (.Attribute o "pop" apos) [] [] cpos) _ (wML mPop wo wNil) from w_bm0 PySem.F.slot_list_pop PySem.F.type_list_pop mt_pop rm_pop ho hbase hline
def w_reverse (ho : WE X o to wo) (hbase : attributeBase o "reverse" X.env (eval o X.env) = eval o X.env := by rfl) (hline : (apos.endLine == cpos.line) = true := by rfl) := show WE X (.Call (.Attribute o "reverse" apos) [] [] cpos) _ (wML mReverse wo wNil) from w_bm0 PySem.F.slot_list_reverse PySem.F.type_list_reverse mt_reverse rm_reverse ho hbase hline
end
/-! ### slices of lists, tuples -/
def wSl (w : WX) (l h : WO) : WX := fun ρ μ P => w ρ μ fun u μ1 => l ρ μ1 fun lo μ2 => h ρ μ2 fun hi μ3 => match u with
  | .d (.tuple ds) => P (.d (.tuple (cutL ds lo hi))) μ3
  | u => ∃ ds : List PyData, listU μ3 u = some (ds.map U.d) ∧ P (.d (.list (cutL ds lo hi))) μ3
section
variable {K : Fg} {X : Cx} {pos p2 : Pos} {e : Expr} {lo hi : Option Expr} {te : TE} {we : WX} {tl th : TO} {wl wh : WO}
theorem re_sl (h : RE K te we) (hl : RPt K tl wl) (hh : RPt K th wh) : RE K (tSl (fun x lo hi H Q => rSlL K x lo hi H Q ∨ rSlX K x lo hi H Q) te tl th) (wSl we wl wh) := fun F G H μ σ ρ P Q S w q => h F G H μ σ ρ _ _ S w fun v u G1 H1 μ1 e1 S1 r1 p1 =>
  hl F G1 H1 μ1 σ ρ _ _ (S.mono e1 S1) p1 fun lo G2 H2 μ2 e2 S2 p2 => hh F G2 H2 μ2 σ ρ _ _ (S.mono (e1.trans e2) S2) p2 fun hi G3 H3 μ3 e3 S3 p3 => by
    by_cases ht : ∃ ds, u = .d (.tuple ds)
    · obtain ⟨ds, rfl⟩ := ht
      have p3 : P (.d (.tuple (cutL ds lo hi))) μ3 := p3
      have r3 : Ru K G3 v (.d (.tuple ds)) := (r1.mono e2).mono e3
      obtain ⟨a, vs, rfl, h1, h2⟩ := rp_tup r3
      have hl := h2.length
      refine .inr ⟨a, vs, rfl, h1.sq S3.sub, fun hw => ?_, fun _ l o hl to => ?_⟩
      · rw [hl] at hw
        rw [cut_all ds lo hi hw] at p3
        exact q (.ref a) (.d (.tuple ds)) _ _ μ3 ((e1.trans e2).trans e3) S3 r3 p3
      · obtain ⟨e4, S4⟩ := S3.newG (o := .frz o (.tup (cutV vs lo hi))) hl
        have r4 := rus_cut lo hi (rus_d h2)
        rw [cut_map] at r4
        exact q (.ref l) (.d (.tuple (cutL ds lo hi))) _ _ μ3 (((e1.trans e2).trans e3).trans e4) S4 (Rp.tup (.new to) ((d_rus r4).mono e4)) p3
    · have p3 : ∃ ds : List PyData, listU μ3 u = some (ds.map U.d) ∧ P (.d (.list (cutL ds lo hi))) μ3 := by
        revert p3
        cases u with
        | d z =>
          cases z with
          | tuple l => exact fun _ => absurd ⟨l, rfl⟩ ht
          | _ => exact fun h => h
        | r a => exact fun h => h
      obtain ⟨ds, hd, p3⟩ := p3
      obtain ⟨a, vs, rfl, h1, h2⟩ := listU_ok S3 ((r1.mono e2).mono e3) hd
      refine .inl ⟨a, vs, rfl, h1, fun l hl => ?_⟩
      obtain ⟨e4, S4⟩ := S3.newG (o := .lst (cutV vs lo hi)) hl
      have r4 := rus_cut lo hi h2
      rw [cut_map] at r4
      exact q (.ref l) (.d (.list (cutL ds lo hi))) _ _ μ3 (((e1.trans e2).trans e3).trans e4) S4 (Rp.lst (SqL.of upd_same) ((d_rus r4).mono e4)) p3
def w_sl (h : WE X e te we) (hl : WPo X lo tl wl) (hh : WPo X hi th wh) := show WE X (.Subscript e (.Slice lo hi none p2) pos) _ (wSl we wl wh) from ⟨pe_slice (SlR.or sl_list sl_tupX) h.pe hl.po hh.po, re_sl h.re hl.rp hh.rp⟩
end

/-! ### comprehensions with one place -/
section
variable {X : Cx} {elt tg iter : Expr} {ifs : List Expr} {scope : Scope} {pos : Pos} {wi : TI} {wj : WIt} {g : TG} {wg : WTg} {tt : TT} {wt : WB} {te : TE} {we : WX}
theorem w_lc1 (v : Str) (k : Nat) (hc : X.calm = true) (hN : X.N.Nodup) (hi : WI X tg iter wi wj) (ok : BlkOk X.N X.env.scope scope [(v, k)]) (go : GOnly g [k]) (_ : WG (X.blk X.s_0 X.H_0 scope (compEnvC scope [] 0 X.env) []) tg g wg) (_ : WTs (X.blk X.s_0 X.H_0 scope (compEnvC scope [] 0 X.env) []) ifs tt wt) (_ : WE (X.blk X.s_0 X.H_0 scope (compEnvC scope [] 0 X.env) []) elt te we)
    (hg : ∀ (s : Shared) (H : Hp) (C : Addr) (cl : List (Str × Addr)) (fp : List Addr), WG (X.blk s H scope (compEnvC scope cl C X.env) fp) tg g wg) (ht : ∀ (s : Shared) (H : Hp) (C : Addr) (cl : List (Str × Addr)) (fp : List Addr), WTs (X.blk s H scope (compEnvC scope cl C X.env) fp) ifs tt wt)
    (he : ∀ (s : Shared) (H : Hp) (C : Addr) (cl : List (Str × Addr)) (fp : List Addr), WE (X.blk s H scope (compEnvC scope cl C X.env) fp) elt te we) (hs : ∀ x, foldedSetIterable iter X.env x = pure x := by intro _; rfl) :
    WE X (.ListComp elt [⟨tg, iter, ifs, 0⟩] scope pos) (tLc wi g tt te [k]) (wLc wj [k] wg wt we) := w_lc (own := [(v, k)]) hc hN hi ok go hg ht he hs
theorem w_setLc1 (i : Nat) (v : Str) (k : Nat) {y : Str} {py spos : Pos} (hc : X.calm = true) (hN : X.N.Nodup) (hsw : swapsWith (.ListComp elt [⟨tg, iter, ifs, 0⟩] scope pos) (some (.Name y py)) spos.line X.env = pure true) (hi : WI X tg iter wi wj) (ok : BlkOk X.N X.env.scope scope [(v, k)]) (go : GOnly g [k]) (_ : WG (X.blk X.s_0 X.H_0 scope (compEnvC scope [] 0 X.env) []) tg g wg) (_ : WTs (X.blk X.s_0 X.H_0 scope (compEnvC scope [] 0 X.env) []) ifs tt wt) (_ : WE (X.blk X.s_0 X.H_0 scope (compEnvC scope [] 0 X.env) []) elt te we)
    (hg : ∀ (s : Shared) (H : Hp) (C : Addr) (cl : List (Str × Addr)) (fp : List Addr), WG (X.blk s H scope (compEnvC scope cl C X.env) fp) tg g wg) (ht : ∀ (s : Shared) (H : Hp) (C : Addr) (cl : List (Str × Addr)) (fp : List Addr), WTs (X.blk s H scope (compEnvC scope cl C X.env) fp) ifs tt wt)
    (he : ∀ (s : Shared) (H : Hp) (C : Addr) (cl : List (Str × Addr)) (fp : List Addr), WE (X.blk s H scope (compEnvC scope cl C X.env) fp) elt te we) (hy : X.N[i]? = some y := by rfl) (hyl : X.env.scope.names.lookup y = some .local := by rfl) (hs : ∀ x, foldedSetIterable iter X.env x = pure x := by intro _; rfl) :
    WS X (.Assign [.Name y py] (.ListComp elt [⟨tg, iter, ifs, 0⟩] scope pos) spos) (tAsg (tLc wi g tt te [k]) (gName i)) (wAsg (wLc wj [k] wg wt we) (gN i)) := w_setLc i (own := [(v, k)]) hc hN hsw hi ok go hg ht he hy hyl hs
theorem w_lcM1 (v : Str) (k : Nat) (hc : X.calm = true) (hN : X.N.Nodup) (hi : WI X tg iter wi wj) (ok : BlkOk X.N X.env.scope scope [(v, k)]) (go : GOnly g [k]) (_ : WG (X.blk X.s_0 X.H_0 scope (compEnvC scope [] 0 X.env) []) tg g wg) (_ : WTs (X.blk X.s_0 X.H_0 scope (compEnvC scope [] 0 X.env) []) ifs tt wt) (_ : WE (X.blk X.s_0 X.H_0 scope (compEnvC scope [] 0 X.env) []) elt te we)
    (hg : ∀ (s : Shared) (H : Hp) (C : Addr) (cl : List (Str × Addr)) (fp : List Addr), WG (X.blk s H scope (compEnvC scope cl C X.env) fp) tg g wg) (ht : ∀ (s : Shared) (H : Hp) (C : Addr) (cl : List (Str × Addr)) (fp : List Addr), WTs (X.blk s H scope (compEnvC scope cl C X.env) fp) ifs tt wt)
    (he : ∀ (s : Shared) (H : Hp) (C : Addr) (cl : List (Str × Addr)) (fp : List Addr), WE (X.blk s H scope (compEnvC scope cl C X.env) fp) elt te we) (hs : ∀ x, foldedSetIterable iter X.env x = pure x := by intro _; rfl) :
    WE X (.ListComp elt [⟨tg, iter, ifs, 0⟩] scope pos) (tLc wi g tt te [k]) (wLcM wj [k] wg wt we) := w_lcM (own := [(v, k)]) hc hN hi ok go hg ht he hs
theorem w_setLcM1 (i : Nat) (v : Str) (k : Nat) {y : Str} {py spos : Pos} (hc : X.calm = true) (hN : X.N.Nodup) (hsw : swapsWith (.ListComp elt [⟨tg, iter, ifs, 0⟩] scope pos) (some (.Name y py)) spos.line X.env = pure true) (hi : WI X tg iter wi wj) (ok : BlkOk X.N X.env.scope scope [(v, k)]) (go : GOnly g [k]) (_ : WG (X.blk X.s_0 X.H_0 scope (compEnvC scope [] 0 X.env) []) tg g wg) (_ : WTs (X.blk X.s_0 X.H_0 scope (compEnvC scope [] 0 X.env) []) ifs tt wt) (_ : WE (X.blk X.s_0 X.H_0 scope (compEnvC scope [] 0 X.env) []) elt te we)
    (hg : ∀ (s : Shared) (H : Hp) (C : Addr) (cl : List (Str × Addr)) (fp : List Addr), WG (X.blk s H scope (compEnvC scope cl C X.env) fp) tg g wg) (ht : ∀ (s : Shared) (H : Hp) (C : Addr) (cl : List (Str × Addr)) (fp : List Addr), WTs (X.blk s H scope (compEnvC scope cl C X.env) fp) ifs tt wt)
    (he : ∀ (s : Shared) (H : Hp) (C : Addr) (cl : List (Str × Addr)) (fp : List Addr), WE (X.blk s H scope (compEnvC scope cl C X.env) fp) elt te we) (hy : X.N[i]? = some y := by rfl) (hyl : X.env.scope.names.lookup y = some .local := by rfl) (hs : ∀ x, foldedSetIterable iter X.env x = pure x := by intro _; rfl) :
    WS X (.Assign [.Name y py] (.ListComp elt [⟨tg, iter, ifs, 0⟩] scope pos) spos) (tAsg (tLc wi g tt te [k]) (gName i)) (wAsg (wLcM wj [k] wg wt we) (gN i)) := w_setLcM i (own := [(v, k)]) hc hN hsw hi ok go hg ht he hy hyl hs
end

/-! ### the scope that stands in a comprehension -/
def relS (sc S : Scope) : Scope := { sc with names := sc.names.map fun (n, k) => if (k == NameKind.free && S.kind == .function && S.names.lookup n == some .cell) then (n, NameKind.cell) else (n, k) }
theorem relS_eq (sc : Scope) (env : Env) : relabel sc env = relS sc env.scope := rfl
/-! ### comprehensions with several places -/
theorem gso_consN {i : Nat} {ts : TGs} {vs : List Nat} (h : i ∈ vs) (t : GsOnly ts vs) : GsOnly (gCons (gName i) ts) vs := fun xs σ H Q ⟨v, r, e, q⟩ => by
  have e0 : wipe (σ.set i (some v)) vs = wipe σ vs := (go_name h v σ H (fun σ2 _ => wipe σ2 vs = wipe (σ.set i (some v)) vs) rfl).1
  have q := t r (σ.set i (some v)) H Q q
  rw [e0] at q
  exact ⟨v, r, e, q⟩
theorem go_tup {K : Fg} {n : Nat} {ts : TGs} {vs : List Nat} (t : GsOnly ts vs) : GOnly (gTup K n ts) vs := fun v σ H Q ⟨a, xs, e, s, l, q⟩ => ⟨a, xs, e, s, l, t xs σ H Q q⟩
section
variable {X : Cx} {elt tg iter : Expr} {ifs : List Expr} {scope : Scope} {pos : Pos} {wi : TI} {wj : WIt} {g : TG} {wg : WTg} {tt : TT} {wt : WB} {te : TE} {we : WX}
theorem w_lcN (own : List (Str × Nat)) (vs : List Nat) (hv : own.map (·.2) = vs) (hc : X.calm = true) (hN : X.N.Nodup) (hi : WI X tg iter wi wj) (ok : BlkOk X.N X.env.scope scope own) (go : GOnly g vs) (_ : WG (X.blk X.s_0 X.H_0 scope (compEnvC scope [] 0 X.env) []) tg g wg) (_ : WTs (X.blk X.s_0 X.H_0 scope (compEnvC scope [] 0 X.env) []) ifs tt wt) (_ : WE (X.blk X.s_0 X.H_0 scope (compEnvC scope [] 0 X.env) []) elt te we)
    (hg : ∀ (s : Shared) (H : Hp) (C : Addr) (cl : List (Str × Addr)) (fp : List Addr), WG (X.blk s H scope (compEnvC scope cl C X.env) fp) tg g wg) (ht : ∀ (s : Shared) (H : Hp) (C : Addr) (cl : List (Str × Addr)) (fp : List Addr), WTs (X.blk s H scope (compEnvC scope cl C X.env) fp) ifs tt wt)
    (he : ∀ (s : Shared) (H : Hp) (C : Addr) (cl : List (Str × Addr)) (fp : List Addr), WE (X.blk s H scope (compEnvC scope cl C X.env) fp) elt te we) (hs : ∀ x, foldedSetIterable iter X.env x = pure x := by intro _; rfl) :
    WE X (.ListComp elt [⟨tg, iter, ifs, 0⟩] scope pos) (tLc wi g tt te vs) (wLc wj vs wg wt we) := by
  subst hv
  exact w_lc (own := own) hc hN hi ok go hg ht he hs
theorem w_setLcN (i : Nat) (own : List (Str × Nat)) (vs : List Nat) (hv : own.map (·.2) = vs) {y : Str} {py spos : Pos} (hc : X.calm = true) (hN : X.N.Nodup) (hsw : swapsWith (.ListComp elt [⟨tg, iter, ifs, 0⟩] scope pos) (some (.Name y py)) spos.line X.env = pure true) (hi : WI X tg iter wi wj) (ok : BlkOk X.N X.env.scope scope own) (go : GOnly g vs) (_ : WG (X.blk X.s_0 X.H_0 scope (compEnvC scope [] 0 X.env) []) tg g wg) (_ : WTs (X.blk X.s_0 X.H_0 scope (compEnvC scope [] 0 X.env) []) ifs tt wt) (_ : WE (X.blk X.s_0 X.H_0 scope (compEnvC scope [] 0 X.env) []) elt te we)
    (hg : ∀ (s : Shared) (H : Hp) (C : Addr) (cl : List (Str × Addr)) (fp : List Addr), WG (X.blk s H scope (compEnvC scope cl C X.env) fp) tg g wg) (ht : ∀ (s : Shared) (H : Hp) (C : Addr) (cl : List (Str × Addr)) (fp : List Addr), WTs (X.blk s H scope (compEnvC scope cl C X.env) fp) ifs tt wt)
    (he : ∀ (s : Shared) (H : Hp) (C : Addr) (cl : List (Str × Addr)) (fp : List Addr), WE (X.blk s H scope (compEnvC scope cl C X.env) fp) elt te we) (hy : X.N[i]? = some y := by rfl) (hyl : X.env.scope.names.lookup y = some .local := by rfl) (hs : ∀ x, foldedSetIterable iter X.env x = pure x := by intro _; rfl) :
    WS X (.Assign [.Name y py] (.ListComp elt [⟨tg, iter, ifs, 0⟩] scope pos) spos) (tAsg (tLc wi g tt te vs) (gName i)) (wAsg (wLc wj vs wg wt we) (gN i)) := by
  subst hv
  exact w_setLc i (own := own) hc hN hsw hi ok go hg ht he hy hyl hs
theorem w_lcMN (own : List (Str × Nat)) (vs : List Nat) (hv : own.map (·.2) = vs) (hc : X.calm = true) (hN : X.N.Nodup) (hi : WI X tg iter wi wj) (ok : BlkOk X.N X.env.scope scope own) (go : GOnly g vs) (_ : WG (X.blk X.s_0 X.H_0 scope (compEnvC scope [] 0 X.env) []) tg g wg) (_ : WTs (X.blk X.s_0 X.H_0 scope (compEnvC scope [] 0 X.env) []) ifs tt wt) (_ : WE (X.blk X.s_0 X.H_0 scope (compEnvC scope [] 0 X.env) []) elt te we)
    (hg : ∀ (s : Shared) (H : Hp) (C : Addr) (cl : List (Str × Addr)) (fp : List Addr), WG (X.blk s H scope (compEnvC scope cl C X.env) fp) tg g wg) (ht : ∀ (s : Shared) (H : Hp) (C : Addr) (cl : List (Str × Addr)) (fp : List Addr), WTs (X.blk s H scope (compEnvC scope cl C X.env) fp) ifs tt wt)
    (he : ∀ (s : Shared) (H : Hp) (C : Addr) (cl : List (Str × Addr)) (fp : List Addr), WE (X.blk s H scope (compEnvC scope cl C X.env) fp) elt te we) (hs : ∀ x, foldedSetIterable iter X.env x = pure x := by intro _; rfl) :
    WE X (.ListComp elt [⟨tg, iter, ifs, 0⟩] scope pos) (tLc wi g tt te vs) (wLcM wj vs wg wt we) := by
  subst hv
  exact w_lcM (own := own) hc hN hi ok go hg ht he hs
theorem w_setLcMN (i : Nat) (own : List (Str × Nat)) (vs : List Nat) (hv : own.map (·.2) = vs) {y : Str} {py spos : Pos} (hc : X.calm = true) (hN : X.N.Nodup) (hsw : swapsWith (.ListComp elt [⟨tg, iter, ifs, 0⟩] scope pos) (some (.Name y py)) spos.line X.env = pure true) (hi : WI X tg iter wi wj) (ok : BlkOk X.N X.env.scope scope own) (go : GOnly g vs) (_ : WG (X.blk X.s_0 X.H_0 scope (compEnvC scope [] 0 X.env) []) tg g wg) (_ : WTs (X.blk X.s_0 X.H_0 scope (compEnvC scope [] 0 X.env) []) ifs tt wt) (_ : WE (X.blk X.s_0 X.H_0 scope (compEnvC scope [] 0 X.env) []) elt te we)
    (hg : ∀ (s : Shared) (H : Hp) (C : Addr) (cl : List (Str × Addr)) (fp : List Addr), WG (X.blk s H scope (compEnvC scope cl C X.env) fp) tg g wg) (ht : ∀ (s : Shared) (H : Hp) (C : Addr) (cl : List (Str × Addr)) (fp : List Addr), WTs (X.blk s H scope (compEnvC scope cl C X.env) fp) ifs tt wt)
    (he : ∀ (s : Shared) (H : Hp) (C : Addr) (cl : List (Str × Addr)) (fp : List Addr), WE (X.blk s H scope (compEnvC scope cl C X.env) fp) elt te we) (hy : X.N[i]? = some y := by rfl) (hyl : X.env.scope.names.lookup y = some .local := by rfl) (hs : ∀ x, foldedSetIterable iter X.env x = pure x := by intro _; rfl) :
    WS X (.Assign [.Name y py] (.ListComp elt [⟨tg, iter, ifs, 0⟩] scope pos) spos) (tAsg (tLc wi g tt te vs) (gName i)) (wAsg (wLcM wj vs wg wt we) (gN i)) := by
  subst hv
  exact w_setLcM i (own := own) hc hN hsw hi ok go hg ht he hy hyl hs
end
/-! ### a def of the module under its name -/
structure Dn (K : Fg) (mg : Str → Option Value) (x : Str) (s : Stmt) : Prop where
  ex : ∃ (f : Addr) (fd : FuncData), FunD K x x (defArgs s) (defBody s) (defScope s) [] [] f fd ∧ mg x = some (.ref f)
theorem Dn.zero {P : Program} {w : World} {K : Fg} {mg : Str → Option Value} {base : Heap} {x : Str} {s : Stmt} {ps : List Str} (D : Dn K mg x s) (b : ∀ {f : Addr} {fd : FuncData}, FunD K x x (defArgs s) (defBody s) (defScope s) [] [] f fd → Binds K fd ps []) :
    C8.Cal P w K mg base 0 x (sp3 K fun _ _ _ => False) [] := by
  obtain ⟨f, fd, F, h⟩ := D.ex
  refine ⟨f, fd, ps, [], ⟨fun vs H Q E ⟨_, _, _, _, _, _, _, z, _⟩ => z.elim, fun A outer s H args us vs Q E _ _ _ _ ⟨_, _, _, _, _, _, _, z, _⟩ => z.elim⟩, h, F.kp, b F, .nil⟩

/-- the ends of a def's body -/
def E3 (μ : Mu) (Q : XP) : End3 := { nx := fun _ μ' => ∃ u2 μ2, Gv μ (.d .none) μ' u2 μ2 ∧ Q u2 μ2, rt := fun u μ' => ∃ u2 μ2, Gv μ u μ' u2 μ2 ∧ Q u2 μ2 }
theorem rtE {μ μ' : Mu} {Q : XP} {u : U} (q : Q u μ') : (E3 μ Q).rt u μ' := ⟨u, μ', .rfl, q⟩
theorem rtF {μ μ' : Mu} {Q : XP} {a : Addr} {ds : List PyData} (h : μ' a = some (.lst (ds.map U.d))) (q : Q (.d (.list ds)) (del μ' a)) : (E3 μ Q).rt (.r a) μ' := ⟨_, _, .frz h, q⟩
theorem rtD {μ μ' : Mu} {Q : XP} {u : U} (a : Addr) (h : (E3 μ Q).rt u (del μ' a)) : (E3 μ Q).rt u μ' := by
  obtain ⟨u2, μ2, g, q⟩ := h
  exact ⟨u2, μ2, .drop g, q⟩
theorem rtH {μ μ' : Mu} {Q : XP} {u : U} {a : Addr} {ns : List Int} {i r t : Int} (h : μ' a = some (.lst [.d (.list (ns.map .int)), .d (.int i), .d (.int r), .d (.int t)])) (h1 : ns.length ≤ 63) (h2 : ∀ x ∈ ns, 0 ≤ x) (h3 : 0 ≤ i) (h4 : i ≤ 63) (h5 : 0 ≤ r) (q : (E3 μ Q).rt u (put μ' a .hand)) : (E3 μ Q).rt u μ' := by
  obtain ⟨u2, μ2, g, q⟩ := q
  exact ⟨u2, μ2, .hand h h1 h2 h3 h4 h5 g, q⟩
theorem nxE {μ μ' : Mu} {ρ : Rho} {Q : XP} (q : Q (.d .none) μ') : (E3 μ Q).nx ρ μ' := ⟨_, μ', .rfl, q⟩

/-! ### the hand opened -/
def wOpen (i : Nat) (w : WSt) : WSt := fun B ρ μ => ∃ a, ρ[i]? = some (some (.r a)) ∧ μ a = some .hand ∧ ∀ (ns : List Int) (j r t : Int), ns.length ≤ 63 → (∀ x ∈ ns, 0 ≤ x) → 0 ≤ j → j ≤ 63 → 0 ≤ r → w B ρ (put μ a (.lst [.d (.list (ns.map .int)), .d (.int j), .d (.int r), .d (.int t)]))
theorem rs_open {K : Fg} {t : TS} {w : WSt} (i : Nat) (h : RS K t w) : RS K t (wOpen i w) := fun F G H μ σ ρ D B S L ⟨a, h1, h2, w⟩ => by
  obtain ⟨ns, j, r, z, l1, l2, l3, l4, l5, S'⟩ := S.st.openHand h2
  exact h F G H _ σ ρ D B ⟨S', S.len, S.sl⟩ L (w ns j r z l1 l2 l3 l4 l5)
theorem w_open {X : Cx} {s : List Stmt} {t : TS} {w : WSt} (i : Nat) (h : WSs X s t w) : WSs X s t (wOpen i w) := ⟨h.ps, rs_open i h.rs⟩

/-! ### loops by an invariant -/
theorem forGo_inv {g : WTg} {t : WSt} {Al : Mu → Prop} {us : List U} {B : End3} {ρ : Rho} {μ : Mu} (I : Nat → Rho → Mu → Prop) (h0 : I 0 ρ μ) (al : ∀ j ρ μ, I j ρ μ → Al μ)
    (step : ∀ (j : Nat) (hj : j < us.length) (ρ : Rho) (μ : Mu) (N : Rho → Mu → Prop), I j ρ μ → (∀ ρ' μ', I (j + 1) ρ' μ' → N ρ' μ') → g us[j] ρ μ fun ρ1 μ1 => t { B with nx := N, ct := N, bk := B.nx } ρ1 μ1)
    (fin : ∀ ρ μ, I us.length ρ μ → B.nx ρ μ) : forGo g t Al us B ρ μ := by
  have key : ∀ (k j : Nat) (ρ : Rho) (μ : Mu), us.length - j = k → j ≤ us.length → I j ρ μ → forGo g t Al (us.drop j) B ρ μ := by
    intro k
    induction k with
    | zero =>
      intro j ρ μ hk hj h
      have e : j = us.length := by omega
      subst e
      rw [List.drop_length]
      exact ⟨al _ _ _ h, fin _ _ h⟩
    | succ k ih =>
      intro j ρ μ hk hj h
      have hj' : j < us.length := by omega
      rw [List.drop_eq_getElem_cons hj']
      exact ⟨al _ _ _ h, step j hj' ρ μ _ h fun ρ' μ' h' => ih (j + 1) ρ' μ' (by omega) hj' h'⟩
  have := key us.length 0 ρ μ (by omega) (Nat.zero_le _) h0
  rwa [List.drop_zero] at this
theorem lcGo_inv {g : WTg} {wt : WB} {we : WX} {Al : Mu → Prop} {us : List U} {ρ : Rho} {μ : Mu} {P : List U → Mu → Prop} (I : Nat → List U → Mu → Prop) (h0 : I 0 [] μ) (al : ∀ j acc μ, I j acc μ → Al μ)
    (step : ∀ (j : Nat) (hj : j < us.length) (acc : List U) (μ : Mu) (N : List U → Mu → Prop), I j acc μ → (∀ acc' μ', I (j + 1) acc' μ' → N acc' μ') → g us[j] ρ μ fun ρ1 μ1 => wt ρ1 μ1 fun b μ2 => if b = true then we ρ1 μ2 fun y μ3 => acc.length < sizeLine ∧ N (acc ++ [y]) μ3 else N acc μ2)
    (fin : ∀ acc μ, I us.length acc μ → P acc μ) : lcGo g wt we Al us [] ρ μ P := by
  have key : ∀ (k j : Nat) (acc : List U) (μ : Mu), us.length - j = k → j ≤ us.length → I j acc μ → lcGo g wt we Al (us.drop j) acc ρ μ P := by
    intro k
    induction k with
    | zero =>
      intro j acc μ hk hj h
      have e : j = us.length := by omega
      subst e
      rw [List.drop_length]
      exact ⟨al _ _ _ h, fin _ _ h⟩
    | succ k ih =>
      intro j acc μ hk hj h
      have hj' : j < us.length := by omega
      rw [List.drop_eq_getElem_cons hj']
      exact ⟨al _ _ _ h, step j hj' acc μ _ h fun acc' μ' h' => ih (j + 1) acc' μ' (by omega) hj' h'⟩
  have := key us.length 0 [] μ (by omega) (Nat.zero_le _) h0
  rwa [List.drop_zero] at this

section
variable {P : Program} {w : World} {K : Fg} {mg : Str → Option Value} {base : Heap}
theorem fn3F {x : Str} {params : Arguments} {body : List Stmt} {scope : Scope} {f : Addr} {fd : FuncData} {N ps : List Str} {k : Nat} {s : WF} (Fd : FunD K x x params body scope [] [] f fd) (S : FnScope N ps scope)
    (len : ∀ us μ Q, s us μ Q → us.length = ps.length)
    (hbody : ∀ (cdv : Value) (A : Around) (outer : List Env) (sh : Shared) (H : Hp) (E : XK), Room k (A.deeper (envOfC x scope sh.heap.objs.size f cdv)) →
      ∃ t wt, WSs (cxOf CX0 P w K mg base N x scope f cdv A outer sh H E).nox body t wt ∧ ∀ us μ Q, s us μ Q → wt { nx := fun _ μ' => ∃ u2 μ2, Gv μ (.d .none) μ' u2 μ2 ∧ Q u2 μ2, rt := fun u μ' => ∃ u2 μ2, Gv μ u μ' u2 μ2 ∧ Q u2 μ2 } (start3 N us) μ) :
    FnOk P w K mg base C8.CX0 (k + 1) f fd ps (sp3 K s) := by
  refine FunD.ok Fd S (fun vs H Q E h => ?_) (fun cdv A outer sh H vs Q E hr h => ?_)
  · obtain ⟨us, F, G, μ, P, S, r, hs, q⟩ := h
    rw [r.length]
    exact len _ _ _ hs
  · obtain ⟨us, F, G, μ, Pz, S3, r, hs, q⟩ := h
    obtain ⟨t, wt, hw, hq⟩ := hbody cdv A outer sh H E hr
    refine ⟨t, PSs.nox hw.ps, hw.rs F G H μ (L2.start N vs) (start3 N us) _ _ (start_sim S3 r) ⟨?_, ?_, ?_, ?_⟩ (hq us μ Pz hs)⟩
    · rintro σ' G' H' ρ' μ' e S' ⟨u2, μ2, g, p⟩
      obtain ⟨G2, e2, S2, r2⟩ := g.go (v := .non) S'.st Rp.non
      exact q .non u2 G2 H' μ2 (e.trans e2) S2 r2 p
    · rintro v u G' H' μ' e S' r' ⟨u2, μ2, g, p⟩
      obtain ⟨G2, e2, S2, r2⟩ := g.go S' r'
      exact q v u2 G2 H' μ2 (e.trans e2) S2 r2 p
    · exact fun _ _ _ _ _ _ _ h => h.elim
    · exact fun _ _ _ _ _ _ _ h => h.elim
end
end L3

/-! generators by values -/
namespace L3
open PySem PySem.Spec PyProof.Rows L2
/-- a generator def's promise: the arguments, what may change, all that is handed out -/
abbrev WFG := List U → Mu → (List U → Mu → Prop) → Prop
def spG3 (K : Fg) (w : WFG) : SpG := fun vs H cont _ => ∃ (us : List U) (F G : Hp) (μ : Mu) (P : List U → Mu → Prop), St3 K F G H μ ∧ Rus K G vs us ∧ w us μ P ∧
  ∀ ys ws G' H' μ', Ext G G' → St3 K F G' H' μ' → Rus K G' ys ws → P ws μ' → cont ys H'
structure CalG (P : Program) (w : World) (K : Fg) (mg : Str → Option Value) (base : Heap) (k : Nat) (x : Str) (sp : SpG) : Prop where
  ex : ∃ f fd ps, ZFn P w K mg base k f fd ps sp ∧ mg x = some (.ref f) ∧ PySem.W.keepIn K (.ref f) = true ∧ Binds K fd ps []
def wLcG (s : WFG) (w : WL) : WX := fun ρ μ P => w ρ μ fun us μ1 => s us μ1 fun ws μ2 => ∃ ds : List PyData, ws = ds.map U.d ∧ P (.d (.list ds)) μ2
section
variable {K : Fg} {s : WFG} {t : TA} {w : WL}
theorem re_lcG (h : RA K t w) : RE K (tListZ (tCallZ (spG3 K s) t)) (wLcG s w) := fun F G H μ σ ρ P Q S x q => h F G H μ σ ρ _ _ S x fun vs us G1 H1 μ1 e1 S1 r1 p => ⟨us, F, G1, μ1, _, S1, r1, p, fun ys ws G2 H2 μ2 e2 S2 r2 ⟨ds, e, p2⟩ D hD => by
  subst e
  obtain ⟨e3, S3⟩ := S2.newG (o := .lst ys) hD
  exact q (.ref D) (.d (.list ds)) _ _ μ2 ((e1.trans e2).trans e3) S3 (Rp.lst (SqL.of upd_same) ((d_rus r2).mono e3)) p2⟩
end
section
variable {X : Cx} {k j : Nat} {f x y : Str} {p px py pos pos' : Pos} {s : WFG} {t : TA} {w : WL} {e : Expr} {es : List Expr} {scope : Scope}
theorem zgen_of (c : CalG X.prog X.w X.K X.mg X.base k f (spG3 X.K s)) (hr : Room k X.A) (hg : Gl X f) (ha : PA X (e :: es) t)
    (hdb : (f == ("__debug__" : Str)) = false := by decide) (he : starEach (e :: es) X.env = (false, eval e X.env) :: starEach es X.env := by rfl) (hpl : (backTo pos' (starEach es X.env)).any (·.1) = false := by rfl) : ZGen X k (.Call (.Name f p) (e :: es) [] pos') (tCallZ (spG3 X.K s) t) := by
  obtain ⟨a, fd, ps, F, hm, hk, hb⟩ := c.ex
  exact zgen_call F hr hg hm hk hb ha hdb he hpl
theorem w_lcG (c : CalG X.prog X.w X.K X.mg X.base k f (spG3 X.K s)) (hr : Room j X.A) (hkj : k + 1 ≤ j) (hg : Gl X f) (ha : WAr X (e :: es) t w) (sk : scope.kind = .function := by rfl) (su : ∀ z ∈ scope.names, scope.names.lookup z.1 = some z.2 := by decide +kernel) (sf : ∀ z ∈ scope.names, z.2 = .local := by decide +kernel) (sx : scope.names.lookup x = some .local := by rfl)
    (hx : (x == ("__debug__" : Str)) = false := by decide) (hs : ∀ x, foldedSetIterable (.Call (.Name f p) (e :: es) [] pos') X.env x = pure x := by intro _; rfl)
    (hdb : (f == ("__debug__" : Str)) = false := by decide) (he : starEach (e :: es) X.env = (false, eval e X.env) :: starEach es X.env := by rfl) (hpl : (backTo pos' (starEach es X.env)).any (·.1) = false := by rfl) :
    WE X (.ListComp (.Name x py) [⟨.Name x px, .Call (.Name f p) (e :: es) [] pos', [], 0⟩] scope pos) (tListZ (tCallZ (spG3 X.K s) t)) (wLcG s w) :=
  ⟨pe_lcG (zgen_of c (hr.mono (by omega)) hg ha.pa hdb he hpl) (hr.mono hkj) sk su sf sx hx hs, re_lcG ha.ra⟩
theorem w_setLcG (i : Nat) {z : Str} {pz spos : Pos} (hN : X.N.Nodup) (hsw : swapsWith (.ListComp (.Name x py) [⟨.Name x px, .Call (.Name f p) (e :: es) [] pos', [], 0⟩] scope pos) (some (.Name z pz)) spos.line X.env = pure true)
    (c : CalG X.prog X.w X.K X.mg X.base k f (spG3 X.K s)) (hr : Room j X.A) (hkj : k + 1 ≤ j) (hg : Gl X f) (ha : WAr X (e :: es) t w) (hy : X.N[i]? = some z := by rfl) (hyl : X.env.scope.names.lookup z = some .local := by rfl) (sk : scope.kind = .function := by rfl) (su : ∀ z ∈ scope.names, scope.names.lookup z.1 = some z.2 := by decide +kernel) (sf : ∀ z ∈ scope.names, z.2 = .local := by decide +kernel) (sx : scope.names.lookup x = some .local := by rfl)
    (hx : (x == ("__debug__" : Str)) = false := by decide) (hs : ∀ x, foldedSetIterable (.Call (.Name f p) (e :: es) [] pos') X.env x = pure x := by intro _; rfl)
    (hdb : (f == ("__debug__" : Str)) = false := by decide) (he : starEach (e :: es) X.env = (false, eval e X.env) :: starEach es X.env := by rfl) (hpl : (backTo pos' (starEach es X.env)).any (·.1) = false := by rfl) :
    WS X (.Assign [.Name z pz] (.ListComp (.Name x py) [⟨.Name x px, .Call (.Name f p) (e :: es) [] pos', [], 0⟩] scope pos) spos) (tAsg (tListZ (tCallZ (spG3 X.K s) t)) (gName i)) (wAsg (wLcG s w) (gN i)) :=
  ⟨ps_setLcG hN hy hyl hsw (zgen_of c (hr.mono (by omega)) hg ha.pa hdb he hpl) (hr.mono hkj) sk su sf sx hx hs, rs_asg (re_lcG ha.ra) rg_name⟩
end
/-! ### the body of a generator def -/
structure GEnd3 where
  nx : List U → Rho → Mu → Prop
  rt : List U → XP := fun _ _ _ => False
  bk : List U → Rho → Mu → Prop := fun _ _ _ => False
  ct : List U → Rho → Mu → Prop := fun _ _ _ => False
structure LinkG (K : Fg) (F G : Hp) (D : GEnds) (B : GEnd3) : Prop where
  nx : ∀ ys ws σ G' H ρ μ, Ext G G' → Sim K F G' H μ σ ρ → Rus K G' ys ws → B.nx ws ρ μ → D.nx ys σ H
  rt : ∀ ys ws v u G' H μ, Ext G G' → St3 K F G' H μ → Rus K G' ys ws → Ru K G' v u → B.rt ws u μ → D.rt ys v H
  bk : ∀ ys ws σ G' H ρ μ, Ext G G' → Sim K F G' H μ σ ρ → Rus K G' ys ws → B.bk ws ρ μ → D.bk ys σ H
  ct : ∀ ys ws σ G' H ρ μ, Ext G G' → Sim K F G' H μ σ ρ → Rus K G' ys ws → B.ct ws ρ μ → D.ct ys σ H
abbrev WGst := GEnd3 → List U → Rho → Mu → Prop
def RGS (K : Fg) (t : TGn) (w : WGst) : Prop := ∀ (F G H : Hp) (μ : Mu) (σ : L2.St) (ρ : Rho) (D : GEnds) (B : GEnd3) (ys : List V) (ws : List U), Sim K F G H μ σ ρ → Rus K G ys ws → LinkG K F G D B → w B ws ρ μ → t D ys σ H
def wGPl (w : WSt) : WGst := fun B ws ρ μ => w ⟨B.nx ws, B.rt ws, B.bk ws, B.ct ws⟩ ρ μ
def wGSeq (a b : WGst) : WGst := fun B ws ρ μ => a { B with nx := fun ws' ρ' μ' => b B ws' ρ' μ' } ws ρ μ
def wGNil : WGst := fun B ws ρ μ => B.nx ws ρ μ
def wGYield (w : WX) : WGst := fun B ws ρ μ => ws.length < sizeLine ∧ w ρ μ fun u μ1 => B.nx (ws ++ [u]) ρ μ1
def goG (g : WTg) (b : WGst) (Al : Mu → Prop) : List U → GEnd3 → List U → Rho → Mu → Prop
  | [], B, ws, ρ, μ => Al μ ∧ B.nx ws ρ μ
  | u :: us, B, ws, ρ, μ => Al μ ∧ g u ρ μ fun ρ1 μ1 => b { B with nx := goG g b Al us B, ct := goG g b Al us B, bk := B.nx } ws ρ1 μ1
def wGFor (i : WIt) (g : WTg) (b : WGst) : WGst := fun B ws ρ μ => i ρ μ fun us Al μ1 => goG g b Al us B ws ρ μ1
section
variable {K : Fg} {t u : TGn} {w v : WGst}
theorem rgs_pl {t : TS} {w : WSt} (h : RS K t w) : RGS K (tPlain t) (wGPl w) := fun F G H μ σ ρ D B ys ws S r L q =>
  h F G H μ σ ρ (D.at ys) _ S ⟨fun σ' G' H' ρ' μ' e S' p => L.nx ys ws σ' G' H' ρ' μ' e S' (r.mono e) p, fun v u G' H' μ' e S' rv p => L.rt ys ws v u G' H' μ' e S' (r.mono e) rv p, fun σ' G' H' ρ' μ' e S' p => L.bk ys ws σ' G' H' ρ' μ' e S' (r.mono e) p, fun σ' G' H' ρ' μ' e S' p => L.ct ys ws σ' G' H' ρ' μ' e S' (r.mono e) p⟩ q
theorem LinkG.mono {F G G' : Hp} {D : GEnds} {B : GEnd3} (L : LinkG K F G D B) (e : Ext G G') : LinkG K F G' D B :=
  ⟨fun ys ws σ G2 H ρ μ x => L.nx ys ws σ G2 H ρ μ (e.trans x), fun ys ws v u G2 H μ x => L.rt ys ws v u G2 H μ (e.trans x), fun ys ws σ G2 H ρ μ x => L.bk ys ws σ G2 H ρ μ (e.trans x), fun ys ws σ G2 H ρ μ x => L.ct ys ws σ G2 H ρ μ (e.trans x)⟩
theorem rgs_seq (a : RGS K t w) (b : RGS K u v) : RGS K (tGThen t u) (wGSeq w v) := fun F G H μ σ ρ D B ys ws S r L q =>
  a F G H μ σ ρ _ { B with nx := fun ws' ρ' μ' => v B ws' ρ' μ' } ys ws S r ⟨fun ys' ws' σ' G' H' ρ' μ' e S' r' p => b F G' H' μ' σ' ρ' D B ys' ws' S' r' (L.mono e) p, L.rt, L.bk, L.ct⟩ q
theorem rgs_nil : RGS K tG0 wGNil := fun F G H μ σ ρ D B ys ws S r L q => L.nx ys ws σ G H ρ μ (Ext.refl G) S r q
theorem rgs_yield {te : TE} {we : WX} (h : RE K te we) : RGS K (tGYield te) (wGYield we) := fun F G H μ σ ρ D B ys ws S r L ⟨z, q⟩ =>
  ⟨by rw [r.length]; exact z, h F G H μ σ ρ _ _ S q fun x u G' H' μ' e S' rx p => L.nx _ _ σ G' H' ρ μ' e (S.mono e S') ((r.mono e).append (.cons rx .nil)) p⟩
theorem rgs_for {wi : TI} {wj : WIt} {g : TG} {wg : WTg} (h : RI K wi wj) (hg : RG K g wg) (k : RGS K t w) : RGS K (tGFor wi g t) (wGFor wj wg w) := fun F G H μ σ ρ D B ys ws S r L q => h F G H μ σ ρ _ _ S q fun J us Al G0 H0 μ0 e0 S0 jw p => by
  refine ⟨fun i m ys σ H => m = us.length - i ∧ i ≤ us.length ∧ ∃ G1 ρ μ ws, Ext G0 G1 ∧ Sim K F G1 H μ σ ρ ∧ Rus K G1 ys ws ∧ goG wg w Al (us.drop i) B ws ρ μ, ⟨us.length, by simp, Nat.zero_le _, G0, ρ, μ0, ws, Ext.refl _, S.mono e0 S0, r.mono e0, p⟩, ?_⟩
  rintro i m ys1 σ1 H1 ⟨rfl, hi, G1, ρ1, μ1, ws1, e1, S1, r1, w1⟩
  by_cases hlt : i < us.length
  · rw [List.drop_eq_getElem_cons hlt] at w1
    obtain ⟨al, w1⟩ := w1
    obtain ⟨_, hu⟩ := jw F G1 H1 μ1 e1 S1.st al i
    obtain ⟨hgo, hy⟩ := hu us[i] (List.getElem?_eq_getElem hlt)
    refine .inr ⟨hgo, fun ys σ H => ∃ G1 ρ μ ws, Ext G0 G1 ∧ Sim K F G1 H μ σ ρ ∧ Rus K G1 ys ws ∧ goG wg w Al (us.drop (i + 1)) B ws ρ μ, fun ys' σ' H' z => ⟨us.length - (i + 1), by omega, rfl, hlt, z⟩, fun x H2 yl => ?_⟩
    obtain ⟨G2, e2, S2, r2⟩ := hy x H2 yl
    refine hg F G2 H2 μ1 σ1 ρ1 x us[i] _ _ (S1.mono e2 S2) r2 w1 fun σ3 G3 H3 ρ3 μ3 e3 S3 w3 => ?_
    have e03 : Ext G0 G3 := (e1.trans e2).trans e3
    refine k F G3 H3 μ3 σ3 ρ3 _ { B with nx := goG wg w Al (us.drop (i + 1)) B, ct := goG wg w Al (us.drop (i + 1)) B, bk := B.nx } ys1 ws1 S3 (r1.mono (e2.trans e3)) ⟨?_, ?_, ?_, ?_⟩ w3
    · exact fun ys4 ws4 σ4 G4 H4 ρ4 μ4 e4 S4 r4 w4 => ⟨G4, ρ4, μ4, ws4, e03.trans e4, S4, r4, w4⟩
    · exact fun ys4 ws4 v u G4 H4 μ4 e4 => L.rt ys4 ws4 v u G4 H4 μ4 ((e0.trans e03).trans e4)
    · exact fun ys4 ws4 σ4 G4 H4 ρ4 μ4 e4 => L.nx ys4 ws4 σ4 G4 H4 ρ4 μ4 ((e0.trans e03).trans e4)
    · exact fun ys4 ws4 σ4 G4 H4 ρ4 μ4 e4 S4 r4 w4 => ⟨G4, ρ4, μ4, ws4, e03.trans e4, S4, r4, w4⟩
  · rw [List.drop_eq_nil_of_le (by omega)] at w1
    obtain ⟨al, w1⟩ := w1
    obtain ⟨hs, _⟩ := jw F G1 H1 μ1 e1 S1.st al i
    exact .inl ⟨hs (by omega), L.nx ys1 ws1 σ1 G1 H1 ρ1 μ1 (e0.trans e1) S1 r1 w1⟩
end
structure WZ (X : Cx) (st : Stmt) (t : TGn) (w : WGst) : Prop where
  zs : GzS X st t
  rs : RGS X.K t w
structure WZs (X : Cx) (st : List Stmt) (t : TGn) (w : WGst) : Prop where
  zs : GzSs X st t
  rs : RGS X.K t w
section
variable {X : Cx} {st : Stmt} {rest : List Stmt} {e : Expr} {yp pos : Pos} {t u : TGn} {w v : WGst}
theorem wz_cons (a : WZ X st t w) (b : WZs X rest u v) : WZs X (st :: rest) (tGThen t u) (wGSeq w v) := ⟨es_cons a.zs b.zs, rgs_seq a.rs b.rs⟩
theorem wz_nil : WZs X [] tG0 wGNil := ⟨es_nil, rgs_nil⟩
theorem wz_ps {t : TS} {w : WSt} (h : PS X st t) (r : RS X.K t w) : WZ X st (tPlain t) (wGPl w) := ⟨es_ps h, rgs_pl r⟩
theorem wz_yield {te : TE} {we : WX} (h : PE X e te) (r : RE X.K te we) (hco : X.env.scope.isCoroutine = false := by rfl) (hi : interactive X.env = false := by rfl) : WZ X (.Expr (.Yield (some e) yp) pos) (tGYield te) (wGYield we) := ⟨es_yield h hco hi, rgs_yield r⟩
theorem wz_for {tg iter : Expr} {body : List Stmt} {wi : TI} {wj : WIt} {g : TG} {wg : WTg} (hp : PassesOwn (model X.prog X.w) X.A X.env X.xe) (hc : X.calm = true) (hi : PI X tg iter wi) (ri : RI X.K wi wj) (hg : PG X tg g) (rg : RG X.K g wg) (b : WZs X body t w)
    (hs : ∀ x, foldedSetIterable iter X.env x = pure x := by intro _; rfl) : WZ X (.For tg iter body [] pos) (tGFor wi g t) (wGFor wj wg w) := ⟨es_for hp hc hi hg b.zs hs, rgs_for ri rg b.rs⟩
end
end L3
/-! ### rows told without exceptions; the promise of a generator def -/
namespace L3
open PySem PySem.Spec PyProof.Rows L2
section
variable {X : Cx} {st : Stmt} {rest : List Stmt} {e : Expr} {yp pos : Pos} {w v : WGst}
theorem ps_noxZ {t : TS} (h : PS X.nox st t) : PS X st t := ⟨fun pins s σ H D I hw => wpAny_mono (h.run pins s σ H D (I.wish _) hw) (fun _ _ q => q.unwish) fun _ _ z => False.elim z⟩
theorem pg_noxZ {tg : Expr} {g : TG} (h : PG X.nox tg g) : PG X tg g := ⟨fun pins s σ H v u Q I r hw => wpAny_mono (h.run pins s σ H v u Q (I.wish _) r hw) (fun _ _ ⟨σ', H', I', q⟩ => ⟨σ', H', I'.unwish, q⟩) fun _ _ z => False.elim z⟩
theorem pi_noxZ {tg iter : Expr} {wi : TI} (h : PI X.nox tg iter wi) : PI X tg iter wi := ⟨fun pins s σ H R I hw => wpAny_mono (h.run pins s σ H R (I.wish _) hw) (fun _ _ q => wpAny_mono q (fun _ _ ⟨it, fp, tn, J, H', e, I', T, st, f, r⟩ => ⟨it, fp, tn, J, H', e, I'.unwish, T, st, f, r⟩) fun _ _ z => False.elim z) fun _ _ z => False.elim z⟩
theorem wz_plN {t : TS} {w : WSt} (h : WS X.nox st t w) : WZ X st (tPlain t) (wGPl w) := wz_ps (ps_noxZ h.ps) h.rs
theorem wz_yieldN {te : TE} {we : WX} (h : WE X.nox e te we) (hco : X.env.scope.isCoroutine = false := by rfl) (hi : interactive X.env = false := by rfl) : WZ X (.Expr (.Yield (some e) yp) pos) (tGYield te) (wGYield we) := wz_yield h.pe.nox h.re hco hi
theorem wz_forN {tg iter : Expr} {body : List Stmt} {wi : TI} {wj : WIt} {g : TG} {wg : WTg} {t : TGn} (hp : PassesOwn (model X.prog X.w) X.A X.env X.xe) (hc : X.calm = true) (hi : WI X.nox tg iter wi wj) (hg : WG X.nox tg g wg) (b : WZs X body t w)
    (hs : ∀ x, foldedSetIterable iter X.env x = pure x := by intro _; rfl) : WZ X (.For tg iter body [] pos) (tGFor wi g t) (wGFor wj wg w) := wz_for hp hc (pi_noxZ hi.pi) hi.ri (pg_noxZ hg.pg) hg.rg b hs
end
theorem calG_of {P : Program} {w : World} {K : Fg} {mg : Str → Option Value} {base : Heap} {x : Str} {params : Arguments} {body : List Stmt} {scope : Scope} {f : Addr} {fd : FuncData} {N ps : List Str} {k : Nat} {s : WFG} (Fd : FunD K x x params body scope [] [] f fd) (S : GScope N ps scope) (hmg : mg x = some (.ref f)) (hb : Binds K fd ps [])
    (len : ∀ us μ Q, s us μ Q → us.length = ps.length)
    (hbody : ∀ (cdv : Value) (A : Around) (outer : List Env) (sh : Shared) (H : Hp) (E : XK) (pn : List (Addr × Obj)), Room k (A.deeper (envOfC x scope sh.heap.objs.size f cdv)) →
      ∃ t wt, WZs (gcxOf P w K mg base N x scope f cdv A outer sh H E pn) body t wt ∧ ∀ us μ Q, s us μ Q → wt ⟨fun ws _ μ' => Q ws μ', fun ws u μ' => u = .d .none ∧ Q ws μ', fun _ _ _ => False, fun _ _ _ => False⟩ [] (start3 N us) μ) :
    CalG P w K mg base (k + 1) x (spG3 K s) := by
  refine ⟨f, fd, ps, ?_, hmg, Fd.kp, hb⟩
  obtain ⟨oc, od, dV, kV, doc, pm, an, cdv, ct, osl, rfl, lk, hcd, _, _⟩ := Fd.ex
  refine zfn_of lk hcd S (fun vs H Q E h => ?_) fun A outer sh H vs Q E pn hr h => ?_
  · obtain ⟨us, F, G, μ, Pd, S0, r, hs, q⟩ := h
    rw [r.length]
    exact len _ _ _ hs
  · obtain ⟨us, F, G, μ, Pz, S3, r, hs, q⟩ := h
    obtain ⟨t, wt, hw, hq⟩ := hbody cdv A outer sh H E pn hr
    refine ⟨t, hw.zs, hw.rs F G H μ (L2.start N vs) (start3 N us) _ _ [] [] (start_sim S3 r) .nil ⟨?_, ?_, ?_, ?_⟩ (hq us μ Pz hs)⟩
    · exact fun ys ws σ' G' H' ρ' μ' e S' r' p => q ys ws G' H' μ' e S'.st r' p
    · rintro ys ws v u G' H' μ' e S' r' rv ⟨rfl, p⟩
      exact ⟨rp_non rv, q ys ws G' H' μ' e S' r' p⟩
    · exact fun _ _ _ _ _ _ _ _ _ _ h => h.elim
    · exact fun _ _ _ _ _ _ _ _ _ _ h => h.elim
end L3

/-! sorted of data, a star in a row of parts, a list put behind another -/
namespace L3
open PySem PySem.Spec PyProof.Rows L2
def sortD (ds : List PyData) : List PyData := ds.mergeSort (PySem.W.dataLe false id)
theorem sortD_perm (ds : List PyData) : (sortD ds).Perm ds := List.mergeSort_perm _ _
theorem sortD_short {ds : List PyData} (h : ds.length ≤ 1) : sortD ds = ds := by
  match ds, h with
  | [], _ => unfold sortD; exact List.mergeSort_nil
  | [x], _ => exact List.mergeSort_singleton _
/-! ### alike data sort to one list -/
section
open PySem.W
mutual
theorem toks_inj : ∀ (x y : PyData) (l m : List (Int ⊕ List Nat)), alike x y = true → keyToks x ++ l = keyToks y ++ m → x = y ∧ l = m
  | .none, y, l, m, h, e => by
    cases y <;> simp [alike] at h
    simpa [keyToks] using e
  | .bool b, y, l, m, h, e => by
    cases y <;> simp [alike] at h
    rename_i c
    cases b <;> cases c <;> simp [keyToks] at e <;> simp [e]
  | .int b, y, l, m, h, e => by
    cases y <;> simp [alike] at h
    simp [keyToks] at e
    simp [e]
  | .str b, y, l, m, h, e => by
    cases y <;> simp [alike] at h
    simp only [keyToks, List.cons_append, List.nil_append, List.cons.injEq, Sum.inr.injEq] at e
    exact ⟨congrArg _ (str_of_cps e.1), e.2⟩
  | .list xs, y, l, m, h, e => by
    cases y <;> simp [alike] at h
    rename_i ys
    simp only [keyToks] at e
    obtain ⟨h1, h2⟩ := toksAll_inj xs ys l m h e
    exact ⟨by rw [h1], h2⟩
  | .tuple xs, y, l, m, h, e => by
    cases y <;> simp [alike] at h
    rename_i ys
    simp only [keyToks] at e
    obtain ⟨h1, h2⟩ := toksAll_inj xs ys l m h e
    exact ⟨by rw [h1], h2⟩
  | .dict _, y, l, m, h, e => by cases y <;> simp [alike] at h
theorem toksAll_inj : ∀ (xs ys : List PyData) (l m : List (Int ⊕ List Nat)), alikeAll xs ys = true → keyToksAll xs ++ l = keyToksAll ys ++ m → xs = ys ∧ l = m
  | [], [], l, m, _, e => by simpa [keyToksAll] using e
  | [], y :: ys, l, m, _, e => by simp [keyToksAll] at e
  | x :: xs, [], l, m, _, e => by simp [keyToksAll] at e
  | x :: xs, y :: ys, l, m, h, e => by
    simp only [alikeAll, Bool.and_eq_true] at h
    simp only [keyToksAll, List.cons_append, List.append_assoc, List.cons.injEq, true_and] at e
    obtain ⟨h1, h2⟩ := toks_inj x y _ _ h.1 e
    obtain ⟨h3, h4⟩ := toksAll_inj xs ys l m h.2 h2
    exact ⟨by rw [h1, h3], h4⟩
end
theorem le_anti {x y : PyData} (h : alike x y = true) (h1 : dataLe false id x y = true) (h2 : dataLe false id y x = true) : x = y := by
  have h1 : (!(listOrd itemOrd).blt (keyToks y) (keyToks x)) = true := h1
  have h2 : (!(listOrd itemOrd).blt (keyToks x) (keyToks y)) = true := h2
  have e := (listOrd itemOrd).total (keyToks x) (keyToks y) (by simpa using h2) (by simpa using h1)
  exact (toks_inj x y [] [] h (by rw [List.append_nil, List.append_nil]; exact e)).1
theorem le_trans' (x y z : PyData) (h1 : dataLe false id x y = true) (h2 : dataLe false id y z = true) : dataLe false id x z = true := by
  have h1 : (!(listOrd itemOrd).blt (keyToks y) (keyToks x)) = true := h1
  have h2 : (!(listOrd itemOrd).blt (keyToks z) (keyToks y)) = true := h2
  show (!(listOrd itemOrd).blt (keyToks z) (keyToks x)) = true
  cases h : (listOrd itemOrd).blt (keyToks z) (keyToks x) with
  | false => rfl
  | true =>
    rcases (listOrd itemOrd).negTrans _ (keyToks y) _ h with k | k
    · rw [k] at h2; cases h2
    · rw [k] at h1; cases h1
theorem le_total' (x y : PyData) : (dataLe false id x y || dataLe false id y x) = true := by
  show ((!(listOrd itemOrd).blt (keyToks y) (keyToks x)) || (!(listOrd itemOrd).blt (keyToks x) (keyToks y))) = true
  cases h : (listOrd itemOrd).blt (keyToks y) (keyToks x) with
  | false => rfl
  | true =>
    cases k : (listOrd itemOrd).blt (keyToks x) (keyToks y) with
    | false => rfl
    | true =>
      have := (listOrd itemOrd).trans _ _ _ h k
      rw [(listOrd itemOrd).irrefl] at this
      cases this
theorem uniq_sorted {α : Type} {r : α → α → Prop} : ∀ {xs ys : List α}, (∀ x ∈ xs, ∀ y ∈ ys, r x y → r y x → x = y) → xs.Pairwise r → ys.Pairwise r → xs.Perm ys → xs = ys
  | [], ys, _, _, _, p => (List.Perm.eq_nil p.symm).symm
  | x :: xs, [], _, _, _, p => absurd p.length_eq (by simp)
  | x :: xs, y :: ys, an, h1, h2, p => by
    have e : x = y := by
      rcases List.mem_cons.mp (p.mem_iff.mp (List.mem_cons_self (a := x) (l := xs))) with e | hx
      · exact e
      · rcases List.mem_cons.mp (p.mem_iff.mpr (List.mem_cons_self (a := y) (l := ys))) with e | hy
        · exact e.symm
        · exact an x (List.mem_cons_self ..) y (List.mem_cons_self ..) ((List.pairwise_cons.mp h1).1 y hy) ((List.pairwise_cons.mp h2).1 x hx)
    subst e
    rw [uniq_sorted (fun a ha b hb => an a (List.mem_cons_of_mem _ ha) b (List.mem_cons_of_mem _ hb)) (List.pairwise_cons.mp h1).2 (List.pairwise_cons.mp h2).2 p.cons_inv]
theorem sortD_eq {as bs : List PyData} (al : AllAlike as) (p : as.Perm bs) : sortD as = sortD bs := by
  have s1 := sortD_perm as
  have s2 := sortD_perm bs
  refine uniq_sorted (r := fun x y => dataLe false id x y = true) (fun x hx y hy h1 h2 => le_anti (al x (s1.mem_iff.mp hx) y (p.mem_iff.mpr (s2.mem_iff.mp hy))) h1 h2) ?_ ?_ ((s1.trans p).trans s2.symm)
  · exact List.pairwise_mergeSort le_trans' le_total' as
  · exact List.pairwise_mergeSort le_trans' le_total' bs
end
end L3

/-! sorted of data, a star in a row of parts, a list put behind another -/
namespace L3
open PySem PySem.Spec PyProof.Rows L2
/-! ### sorted(xs), xs a list of data -/
inductive ZAll (Z : V → PyData → Prop) : List V → List PyData → Prop
  | nil : ZAll Z [] []
  | cons {v : V} {d : PyData} {vs : List V} {ds : List PyData} : Z v d → ZAll Z vs ds → ZAll Z (v :: vs) (d :: ds)
theorem zall_rps {K : Fg} {G : Hp} : ∀ {vs : List V} {ds : List PyData}, ZAll (Rp K G) vs ds → Rps K G vs ds
  | _, _, .nil => .nil
  | _, _, .cons h t => .cons h (zall_rps t)
theorem rps_zall {K : Fg} {G : Hp} : ∀ {vs : List V} {ds : List PyData}, Rps K G vs ds → ZAll (Rp K G) vs ds
  | _, _, .nil => .nil
  | _, _, .cons h t => .cons h (rps_zall t)
theorem zall_len {Z : V → PyData → Prop} : ∀ {vs : List V} {ds : List PyData}, ZAll Z vs ds → vs.length = ds.length
  | _, _, .nil => rfl
  | _, _, .cons _ t => congrArg Nat.succ (zall_len t)
theorem zall_each {Z : V → PyData → Prop} : ∀ {vs : List V} {us : List Value} {ds : List PyData}, Vals vs us → ZAll Z vs ds → PySem.W.EachIs (fun u d => ∃ v, RelV v u ∧ Z v d) us ds
  | _, _, _, .nil, .nil => .nil
  | _, _, _, .cons r t, .cons h s => .cons ⟨_, r, h⟩ (zall_each t s)
theorem each_zall {Z : V → PyData → Prop} : ∀ {us : List Value} {ds : List PyData}, PySem.W.EachIs (fun u d => ∃ v, RelV v u ∧ Z v d) us ds → ∃ vs, Vals vs us ∧ ZAll Z vs ds
  | _, _, .nil => ⟨[], .nil, .nil⟩
  | _, _, .cons ⟨v, r, h⟩ t => by
    obtain ⟨vs, h1, h2⟩ := each_zall t
    exact ⟨v :: vs, .cons r h1, .cons h h2⟩
theorem perm_short {α : Type} : ∀ {l m : List α}, m.length ≤ 1 → l.Perm m → l = m
  | _, [], _, p => List.Perm.eq_nil p
  | _, [x], _, p => List.perm_singleton.mp p
  | _, _ :: _ :: _, h, _ => by simp at h
def rSortT (K : Fg) : List V → Hp → VK → Prop := fun vs H Q => ∃ (a : Addr) (xs : List V) (ds : List PyData) (Z : V → PyData → Prop), vs = [.ref a] ∧ SqL K H a xs ∧ DpAll K H xs ds ∧ ZAll Z xs ds ∧ (ds.length ≤ 1 ∨ PySem.W.AllAlike ds ∧ PySem.W.Sortable ds) ∧ (∀ d ∈ ds, d.depth ≤ 8) ∧
  ∀ ys p, ZAll Z ys (sortD ds) → H p = none → Q (.ref p) (upd H p (.lst ys))
theorem cr_sortedT {X : Cx} (hu : X.A.units + 64 < cLine) : CallR X (.builtin "sorted") (rSortT X.K) := by
  intro pins s σ H vs us Q I r h
  obtain ⟨a, xs, ds, Z, rfl, hs, hd, hz, ho, hdep, q⟩ := h
  obtain ⟨its, rv, hl, hsz⟩ := I.list hs
  rw [Vals.ref1 r]
  have hlen := zall_len hz
  have fin : ∀ (ys : List V) (out : List Value), Vals ys out → ZAll Z ys (sortD ds) → ∃ v H', Inv X pins σ H' { s with heap := PyProof.Rows.sortedAll s.heap its out.toArray } ∧ RelV v (.ref (s.heap.objs.size + 1)) ∧ Q v H' := fun ys out rv2 z2 => by
    obtain ⟨ep, he'⟩ := PyProof.Rows.sortedAll_at s.heap its out.toArray
    have l2 : ys.length ≤ sizeLine := by
      rw [zall_len z2, (sortD_perm ds).length_eq, ← hlen]
      exact hsz
    exact ⟨.ref _, upd H (s.heap.objs.size + 1) (.lst ys), I.laid (t' := s.toks) (fun _ _ => PyProof.Rows.sortedAll_old) (Nat.le_succ _) ⟨l2, out, ep, rv2, he'⟩, rfl, q _ _ z2 (I.hok.fresh (Nat.le_succ _))⟩
  rcases ho with ho | ⟨hal, hso⟩
  · have l1 : its.length ≤ 1 := by rw [← rv.length, hlen]; exact ho
    refine SrtO.sorted_ord (ltv := fun _ _ => false) ⟨fun _ _ h => (by cases h), fun _ _ _ _ _ => rfl⟩ hl.isList (by rw [← rv.length]; exact hsz) (fun h2 => by omega) fun out h1 h2 => ?_
    have e : out = its := perm_short l1 h2.perm
    subst e
    have := fin xs out rv (by rw [sortD_short ho]; exact hz)
    exact this
  · obtain ⟨as, ra⟩ := Dp.readsAll I ds _ _ hd rv
    refine PySem.W.sorted_data (bs := ds) (enc := id) hl.isList (zall_each rv hz) (PySem.W.readsAll_each id (by rw [List.map_id]; exact ra)) (by rw [List.map_id]; exact hal) (by rw [List.map_id]; exact hso) (by rw [← hlen]; exact hsz) (fun d hd => ?_) fun out _ eo => ?_
    · have := hdep d hd
      show _ + 2 + d.depth < _
      omega
    · obtain ⟨ys, h1, h2⟩ := each_zall eo
      exact fin ys out h1 h2
def qSortT : WQ := fun us μ P => ∃ (u : U) (ds : List PyData), us = [u] ∧ listU μ u = some (ds.map U.d) ∧ (ds.length ≤ 1 ∨ PySem.W.AllAlike ds ∧ PySem.W.Sortable ds) ∧ (∀ d ∈ ds, d.depth ≤ 8) ∧ P (.d (.list (sortD ds))) μ
theorem rq_sortT {K : Fg} : RQ K (rSortT K) qSortT := fun F G H μ vs us P Q S r ⟨u, ds, e, hl, ho, hd, p⟩ q => by
  subst e
  obtain ⟨v, rfl, rv⟩ := rus1 r
  obtain ⟨a, xs, rfl, h1, h2⟩ := listU_ok S rv hl
  have h3 : Rps K G xs ds := d_rus h2
  refine ⟨a, xs, ds, Rp K G, rfl, h1, Rps.dp S.sub h3, rps_zall h3, ho, hd, fun ys p' hz hp => ?_⟩
  obtain ⟨e, S'⟩ := S.newG (o := .lst ys) hp
  exact q (.ref p') (.d (.list _)) _ _ μ e S' (Rp.lst (SqL.of upd_same) ((zall_rps hz).mono e)) p
section
variable {K : Fg} {X : Cx} {pos p : Pos} {e : Expr} {es : List Expr} {te : TE} {we : WX} {t : TA} {w : WL}
def w_sortedT (hu : X.A.units + 64 < cLine) (hg : Gl X "sorted") (hm : X.mg "sorted" = none) (ha : WAr X (e :: es) t w) (he : starEach (e :: es) X.env = (false, eval e X.env) :: starEach es X.env := by rfl) (hpl : (backTo pos (starEach es X.env)).any (·.1) = false := by rfl) := show WE X (.Call (.Name "sorted" p) (e :: es) [] pos) _ (wQ qSortT w) from w_qb (cr_sortedT hu) rq_sortT hg hm boot_sorted ha (by decide) (by decide) he hpl
/-! ### a star in a row of parts -/
def wStar (a : WX) (r : WL) : WL := fun ρ μ P => a ρ μ fun x μ1 => ∃ us, itemsU μ1 x = some us ∧ r ρ μ1 fun xs μ2 => P (us ++ xs) μ2
theorem ra_star (h : RE K te we) (k : RA K t w) : RA K (StX.tStar K te t) (wStar we w) := fun F G H μ σ ρ P Q S x q => h F G H μ σ ρ _ _ S x fun v u G1 H1 μ1 e1 S1 r1 ⟨us, hi, p⟩ => by
  obtain ⟨a, vs, rfl, hs, r⟩ := itemsU_ok S1 r1 hi
  refine ⟨a, vs, rfl, hs.symm, ?_⟩
  exact k F G1 H1 μ1 σ ρ _ _ (S.mono e1 S1) p fun ws xs G2 H2 μ2 e2 S2 r2 p2 => q (vs ++ ws) (us ++ xs) G2 H2 μ2 (e1.trans e2) S2 ((r.mono e2).append r2) p2
theorem w_star {sp : Pos} (h : WE X e te we) (k : WAr X es t w) (hs : starEach (.Starred e sp :: es) X.env = (true, eval e X.env) :: starEach es X.env := by rfl) : WAr X (.Starred e sp :: es) (StX.tStar X.K te t) (wStar we w) := ⟨StX.pa_star h.pe k.pa hs, ra_star h.re k.ra⟩
/-! ### xs.extend(ys), ys a list that may change -/
def mExtM : WM := fun u vs μ P => ∃ (a b : Addr) (us ws : List U), u = .r a ∧ vs = [.r b] ∧ μ a = some (.lst us) ∧ μ b = some (.lst ws) ∧ us.length + ws.length ≤ sizeLine ∧ P (.d .none) (put μ a (.lst (us ++ ws)))
theorem rm_extM : RM K rExtend mExtM := fun F G H μ x vs u us P Q S rx rv ⟨a, b, ws, zs, e1, e2, h, k, z, p⟩ q => by
  subst e1 e2
  obtain ⟨v, rfl, q1⟩ := rus1 rv
  obtain ⟨xs, h1, h2⟩ := S.lst h
  obtain ⟨ys, k1, k2⟩ := S.lst k
  obtain rfl : v = .ref b := q1
  refine ⟨a, b, xs, ys, rx, rfl, h1, k1, by rw [h2.length, k2.length]; exact z, ?_⟩
  exact q .non (.d .none) G _ _ (Ext.refl G) (S.write (m' := .lst (ws ++ zs)) h ⟨xs ++ ys, upd_same, h2.append k2⟩) Rp.non p
variable {apos cpos : Pos} {o : Expr} {to : TE} {wo : WX}
def w_extM (ho : WE X o to wo) (ha : WAr X [e] t w)
    (hbase : attributeBase o "extend" X.env (eval o X.env) = eval o X.env := by rfl)
    (hfew : ((backTo cpos (starEach [e] X.env)).all (fun x => !x.1) && (backToKw cpos (keywordEach [] X.env)).all (fun x => x.1.isSome)
      && decide (([e] : List Expr).length + ([] : List Keyword).length + (if ([] : List Keyword).isEmpty then 0 else 1) < 30)) = true := by rfl)
    (hline : (apos.endLine == cpos.line) = true := by rfl) (hs : starEach [e] X.env = (false, eval e X.env) :: starEach [] X.env := by rfl) (hplain : (backTo cpos (starEach [] X.env)).any (·.1) = false := by rfl) := show WE X (.Call (.Attribute o "extend" apos) [e] [] cpos) _ (wML mExtM wo w) from w_bm PySem.F.slot_list_extend PySem.F.type_list_extend mt_extend rm_extM ho ha hbase hfew hline hs hplain
end
end L3

/-! sets of numbers and of texts, known so far that they can be walked; sorted(set(xs)) -/
namespace L3
open PySem PySem.Spec PyProof.Rows L2
noncomputable local instance memK (k : Key) (ks : List Key) : Decidable (k ∈ ks) := Classical.propDecidable _
/-! ### the set -/
def keyV : Value → Key
  | .int i _ => .inl i
  | .str x _ => .inr x
  | _ => .inl 0
theorem keyV_of {k : Key} {v : Value} (h : keyIs k v = true) : keyV v = k := by
  rcases keyIs_shape h with ⟨i, t, rfl, rfl⟩ | ⟨x, t, rfl, rfl⟩ <;> rfl
def PlainE (w : World) (e : Int × Value) : Prop := ∃ k : Key, keyIs k e.2 = true ∧ e.1 = keyH w k
def keysE (es : Array (Int × Value)) : List Key := es.toList.map fun e => keyV e.2
/-- at a stands a set whose members are ks -/
def SG (w : World) (h : Heap) (a : Addr) (ks : List Key) : Prop :=
  ∃ (o : Obj) (es : Array (Int × Value)) (ep : Nat) (t : SetTable), h.get? a = some o ∧ o.ExactSet ∧ o.data = .set es ep t ∧ (∀ e ∈ es.toList, PlainE w e) ∧ (keysE es).Perm ks ∧ ks.Nodup ∧
    es.size < scanBound ∧ t.fits es.size = true ∧ Ris t.place.toList ∧ (w.params.followText "set-order" = true ∨ t.led = true)
section
variable {P : Program} {w : World} {h h' : Heap} {a : Addr} {ks : List Key}
theorem SG.stay (R : SG w h a ks) (k : ∀ o, h.get? a = some o → h'.get? a = some o) : SG w h' a ks := by
  obtain ⟨o, es, ep, t, ho, r⟩ := R
  exact ⟨o, es, ep, t, k o ho, r⟩
theorem plain_elems {l : List (Int × Value)} (g : ∀ e ∈ l, PlainE w e) : ElemsOf (mixKind P w) l := fun e he => by
  obtain ⟨k, h1, h2⟩ := g e he
  refine ⟨⟨k, h1, h2⟩, ?_⟩
  rcases keyIs_shape h1 with ⟨i, t, _, q⟩ | ⟨x, t, _, q⟩ <;> rw [q] <;> rfl
theorem plain_key {e : Int × Value} (g : PlainE w e) (k : Key) : keyIs k e.2 = true ↔ keyV e.2 = k := by
  obtain ⟨k', h1, _⟩ := g
  constructor
  · exact keyV_of
  · intro e'
    rw [keyV_of h1] at e'
    rw [← e']
    exact h1
theorem plain_mem {es : Array (Int × Value)} (g : ∀ e ∈ es.toList, PlainE w e) (k : Key) : k ∈ keysE es ↔ ∃ e ∈ es.toList, keyIs k e.2 = true := by
  unfold keysE
  rw [List.mem_map]
  exact ⟨fun ⟨e, he, q⟩ => ⟨e, he, (plain_key (g e he) k).mpr q⟩, fun ⟨e, he, q⟩ => ⟨e, he, (plain_key (g e he) k).mp q⟩⟩
end
noncomputable def insK (ks : List Key) (k : Key) : List Key := if k ∈ ks then ks else ks ++ [k]
noncomputable def uniqK (ks : List Key) : List Key := ks.foldl insK []
theorem uniqK_snoc {ks : List Key} {k : Key} : uniqK (ks ++ [k]) = insK (uniqK ks) k := by
  unfold uniqK
  rw [List.foldl_append]
  rfl
theorem insK_mem {ks : List Key} {k j : Key} : j ∈ insK ks k ↔ j ∈ ks ∨ j = k := by
  unfold insK
  split
  · exact ⟨.inl, fun h => h.elim id fun e => by rw [e]; assumption⟩
  · rw [List.mem_append, List.mem_singleton]
theorem insK_nd {ks : List Key} {k : Key} (h : ks.Nodup) : (insK ks k).Nodup := by
  unfold insK
  split
  · exact h
  · rename_i n
    refine List.nodup_append.mpr ⟨h, List.pairwise_singleton _ _, fun x hx y hy e => ?_⟩
    rw [List.mem_singleton.mp hy] at e
    exact n (e ▸ hx)
theorem uniqK_facts (ks : List Key) : (uniqK ks).Nodup ∧ (∀ j, j ∈ uniqK ks ↔ j ∈ ks) ∧ (uniqK ks).length ≤ ks.length := by
  have go : ∀ (ks acc : List Key), acc.Nodup → (ks.foldl insK acc).Nodup ∧ (∀ j, j ∈ ks.foldl insK acc ↔ j ∈ acc ∨ j ∈ ks) ∧ (ks.foldl insK acc).length ≤ acc.length + ks.length := fun ks => by
    induction ks with
    | nil => exact fun acc h => ⟨h, fun j => by simp, by simp⟩
    | cons k ks ih =>
      intro acc h
      obtain ⟨h1, h2, h3⟩ := ih (insK acc k) (insK_nd h)
      refine ⟨h1, fun j => ?_, ?_⟩
      · show j ∈ ks.foldl insK (insK acc k) ↔ _
        rw [h2, insK_mem, List.mem_cons, or_assoc]
      · have l : (insK acc k).length ≤ acc.length + 1 := by
          unfold insK
          split <;> simp
        show (ks.foldl insK (insK acc k)).length ≤ _
        rw [List.length_cons]
        omega
  obtain ⟨h1, h2, h3⟩ := go ks [] List.Pairwise.nil
  exact ⟨h1, fun j => (h2 j).trans (by simp), by unfold uniqK; simpa using h3⟩
section
variable {P : Program} {w : World} {A : Around} {E : Value → Shared → Prop} {s : Shared} {a : Addr} {ks : List Key}
/-- what is stored at the end of an add, the table laid anew or not -/
theorem sg_tail {gv : Bool → Sem Unit} (hgv : ∀ (b : Bool) (z : Shared) (Z : Unit → Shared → Prop), Z () z → wpAny (model P w) A (gv b) Z E z)
    {o : Obj} {es : Array (Int × Value)} {ep : Nat} {t : SetTable} (ho : s.heap.get? a = some o) (hx : o.ExactSet) (hd : o.data = .set es ep t)
    {fs : Array (Int × Value)} {u : SetTable} {js : List Key} (pl : ∀ e ∈ fs.toList, PlainE w e) (pm : (keysE fs).Perm js) (nd : js.Nodup)
    (hb : fs.size < scanBound) (hf : u.fits fs.size = true) (hr : Ris u.place.toList) (hl : w.params.followText "set-order" = true ∨ u.led = true) {dm : Bool} {R : Option Bool → Shared → Prop}
    (hR : ∀ h', Heap.SameBut a s.heap h' → SG w h' a js → R (some true) { s with heap := h' }) :
    wpAny (model P w) A (do
        storeSet a fs u
        if (!dm && u.tooFull) = true then do
            gv (relayAll u fs (SetTable.grown fs.size)).2.2
            storeSet a (relayAll u fs (SetTable.grown fs.size)).1 (relayAll u fs (SetTable.grown fs.size)).2.1
            pure (some true)
          else pure (some true)) R E s := by
  have at1 := store_at (es' := fs) (t' := u) ho hd
  have same1 := Heap.SameBut.update s.heap a (Obj.putSet fs u)
  refine wpAny_bind (wpAny_storeSet_of ho hd ?_ (fits_of_scanBound hb))
  split
  · have q1 := relayAll_perm u fs (SetTable.grown fs.size)
    have q2 := relayAll_fits u fs (SetTable.grown fs.size)
    have q3 := relayAll_ris u fs (SetTable.grown fs.size)
    have q4 := relayAll_led u fs (SetTable.grown fs.size)
    generalize relayAll u fs (SetTable.grown fs.size) = Y at q1 q2 q3 q4 ⊢
    obtain ⟨gs, v, gave⟩ := Y
    dsimp only at q1 q2 q3 q4 ⊢
    have sz : gs.size = fs.size := by rw [← Array.length_toList, q1.length_eq, Array.length_toList]
    refine wpAny_bind (hgv _ _ _ ?_)
    refine wpAny_bind (wpAny_storeSet_of at1 rfl ?_ (fits_of_scanBound (by omega)))
    refine wpAny_pure (hR _ (same1.trans (Heap.SameBut.update _ a _)) ⟨_, gs, _, v, store_at (es' := gs) (t' := v) at1 rfl, hx, rfl, fun e he => pl e (q1.mem_iff.mp he), ?_, nd, by omega, q2, q3, hl.imp id fun z => q4.trans z⟩)
    have q5 := q1.map fun e : Int × Value => keyV e.2
    exact q5.trans pm
  · exact wpAny_pure (hR _ same1 ⟨_, fs, _, u, at1, hx, rfl, pl, pm, nd, hb, hf, hr, hl⟩)
theorem sg_add {k : Key} {v : Value} {Q : Bool → Shared → Prop} (hk : keyIs k v = true) (R : SG w s.heap a ks) (room : ks.length + 1 < scanBound)
    (hQ : ∀ h', Heap.SameBut a s.heap h' → SG w h' a (insK ks k) → Q (!decide (k ∈ ks)) { s with heap := h' }) : wpAny (model P w) A (setAddHashed a v (keyH w k)) Q E s := by
  obtain ⟨o, es, ep, t, ho, hx, hd, pl, pm, nd, hb, hf, hr, hl⟩ := R
  have hsc : v.scannable = true := by rcases keyIs_shape hk with ⟨i, t, _, q⟩ | ⟨x, t, _, q⟩ <;> rw [q] <;> rfl
  have el : ElemsOf (mixKind P w) es.toList := plain_elems pl
  have kk : (mixKind P w).is k v = true := hk
  show wpAny (model P w) A (setAddHashed a v ((mixKind P w).hash k)) Q E s
  unfold setAddHashed setAddHashedIn
  refine wpAny_holding (wpAny_bind (wpAny_setState_of ho hd hf ?_))
  dsimp only
  rw [byScan_of hsc hb el]
  simp only [↓reduceIte]
  unfold setAddByScan
  refine wpAny_bind (wpAny_bind (wpAny_rule (wpAny_bind (wpAny_setScan_of kk ho hd hf el ?_))))
  cases fi : List.findIdx? (fun e => (mixKind P w).is k e.2) es.toList with
  | some j =>
    dsimp only
    obtain ⟨hj, pj, _⟩ := List.findIdx?_eq_some_iff_getElem.mp fi
    have kin : k ∈ ks := pm.mem_iff.mp ((plain_mem pl k).mpr ⟨es.toList[j], List.getElem_mem hj, pj⟩)
    have e1 : insK ks k = ks := if_pos kin
    have q := hQ s.heap (Heap.SameBut.refl a s.heap) (by rw [e1]; exact ⟨o, es, ep, t, ho, hx, hd, pl, pm, nd, hb, hf, hr, hl⟩)
    rw [decide_eq_true kin] at q
    exact wpAny_pure (wpAny_pure q)
  | none =>
    dsimp only
    have out : k ∉ keysE es := fun z => by
      obtain ⟨e, he, q⟩ := (plain_mem pl k).mp z
      have c := List.findIdx?_eq_none_iff.mp fi e he
      have c' : keyIs k e.2 = false := c
      rw [q] at c'
      cases c'
    have kout : k ∉ ks := fun z => out (pm.mem_iff.mpr z)
    have gw : ∀ (b : Bool) {z : Shared} {Z : Unit → Shared → Prop}, Z () z → wpAny (model P w) A (match b with | true => rule "set.scan.the-table-gave-way" | false => pure ()) Z E z := fun b z Z q => by
      cases b
      · exact wpAny_pure q
      · exact wpAny_rule q
    have p1 := layNew_perm t es ((mixKind P w).hash k) v
    have p2 := layNew_fits t es ((mixKind P w).hash k) v
    have p3 := layNew_ris t es ((mixKind P w).hash k) v hr
    have p4 := layNew_led t es ((mixKind P w).hash k) v
    generalize layNew t es ((mixKind P w).hash k) v = Y at p1 p2 p3 p4 ⊢
    obtain ⟨fs, u, dm, gave⟩ := Y
    dsimp only at p1 p2 p3 p4 ⊢
    rw [Array.toList_push] at p1
    have pl1 : ∀ e ∈ fs.toList, PlainE w e := fun e he => by
      rcases List.mem_append.mp (p1.mem_iff.mp he) with z | z
      · exact pl e z
      · rw [List.mem_singleton.mp z]; exact ⟨k, hk, rfl⟩
    have pm1 : (keysE fs).Perm (insK ks k) := by
      have e1 : insK ks k = ks ++ [k] := if_neg kout
      rw [e1]
      have z := p1.map fun e : Int × Value => keyV e.2
      rw [List.map_append, List.map_singleton, keyV_of hk] at z
      exact z.trans (List.Perm.append_right _ pm)
    have sz : fs.size = ks.length + 1 := by
      have z := p1.length_eq
      have y := pm.length_eq
      unfold keysE at y
      rw [List.length_append, Array.length_toList, Array.length_toList] at z
      rw [List.length_map, Array.length_toList] at y
      simp at z
      omega
    have ld : w.params.followText "set-order" = true ∨ u.led = true := hl.imp id fun z => p4.trans z
    have fin : ∀ h', Heap.SameBut a s.heap h' → SG w h' a (insK ks k) → Q true { s with heap := h' } := fun h' sb r => by
      have q := hQ h' sb r
      rw [decide_eq_false kout] at q
      exact q
    refine wpAny_bind (gw _ ?_)
    split
    · refine wpAny_bind ?_
      rw [hashByValue_scannable 8 hsc]
      refine wpAny_pure ?_
      refine sg_tail (fun b z Z q => gw b q) ho hx hd pl1 pm1 (insK_nd nd) (by omega) ?_ ?_ ?_ fun h' sb r => ?_
      · first | exact p2 | (split <;> first | exact p2 | exact SetTable.fits_plain_off p2)
      · first | exact p3 | (split <;> exact p3)
      · first | exact ld | (split <;> exact ld)
      · dsimp only
        exact wpAny_pure (fin h' sb r)
    · refine wpAny_bind (wpAny_pure ?_)
      simp only [↓reduceIte]
      refine sg_tail (fun b z Z q => gw b q) ho hx hd pl1 pm1 (insK_nd nd) (by omega) p2 p3 ld fun h' sb r => ?_
      dsimp only
      exact wpAny_pure (fin h' sb r)
end
end L3

/-! set(xs) of a list, of a tuple; sorted(set(xs)) -/
namespace L3
open PySem PySem.Spec PyProof.Rows L2
theorem sg_new {w : World} {h : Heap} {a : Addr} (ho : h.get? a = some { cls := .type "set", dict := none, data := .set #[] 0 (.fresh 0 0 (!w.params.followText "set-order")) }) : SG w h a [] := by
  refine ⟨_, #[], 0, _, ho, ⟨rfl, rfl, rfl⟩, rfl, fun e he => (by simp at he), by simp [keysE], List.Pairwise.nil, by decide, by rfl, List.Pairwise.nil, ?_⟩
  show _ ∨ (!w.params.followText "set-order") = true
  cases w.params.followText "set-order"
  · exact .inr rfl
  · exact .inl rfl
/-- values that are keys, one by one -/
def KeysAre : List Value → List Key → Prop
  | [], [] => True
  | v :: vs, k :: ks => keyIs k v = true ∧ KeysAre vs ks
  | _, _ => False
theorem KeysAre.len : ∀ {vs : List Value} {ks : List Key}, KeysAre vs ks → vs.length = ks.length
  | [], [], _ => rfl
  | _ :: _, _ :: _, h => congrArg Nat.succ (KeysAre.len h.2)
theorem KeysAre.at : ∀ {vs : List Value} {ks : List Key} {i : Nat} {v : Value}, KeysAre vs ks → vs[i]? = some v → ∃ k, ks[i]? = some k ∧ keyIs k v = true
  | v :: vs, k :: ks, 0, _, h, e => by
    cases e
    exact ⟨k, rfl, h.1⟩
  | v :: vs, k :: ks, i + 1, _, h, e => KeysAre.at (i := i) h.2 e
theorem keysAre_vals : ∀ {ks : List Key} {vs : List Value}, Vals (ks.map kV) vs → KeysAre vs ks
  | [], _, .nil => trivial
  | .inl i :: ks, _, .cons r t => by
    obtain ⟨tk, e⟩ := r
    subst e
    exact ⟨keyIs_int i tk, keysAre_vals t⟩
  | .inr x :: ks, _, .cons r t => by
    obtain ⟨tk, e⟩ := r
    subst e
    exact ⟨keyIs_str x tk, keysAre_vals t⟩
section
variable {P : Program} {w : World} {A : Around} {E : Value → Shared → Prop} {s : Shared}
theorem sg_loop {I S : Addr} {fp wr : List Addr} {G : Array GenState → Array GenState → Prop} {n : Nat} {Pv : Nat → Value → Prop} {St : Nat → Shared → Prop} {R : Result → Shared → Prop}
    (W : WalksS P w A.in1 I fp wr G n Pv St) (hS : S ∉ fp) (ks : List Key) (hn : n = ks.length) (hb : ks.length + 1 < scanBound) (hv : ∀ i v, Pv i v → ∃ k, ks[i]? = some k ∧ keyIs k v = true) :
    ∀ (r i : Nat) (s : Shared), n - i = r → i ≤ n → St i s → SG w s.heap S (uniqK (ks.take i)) → (∀ s', Moved (S :: wr) G s s' → SG w s'.heap S (uniqK ks) → R (.ok (.ret .none)) s') →
      codeAny (model P w) A (.builtin "set.update.loop" ⟨[.ref S, .ref I], []⟩) R s := by
  have hw : S ∉ wr := fun z => hS (W.sub _ z)
  have sub : ∀ b ∈ wr, b ∈ S :: wr := fun b z => List.mem_cons_of_mem _ z
  intro r
  induction r with
  | zero =>
    intro i s e0 hi st g fin
    obtain rfl : i = n := by omega
    refine codeAny_builtin F.entry_set_update_loop ?_
    rw [Around.under_plainId F.plain_set_update_loop _]
    refine wpAny_bind (W.done s _ _ st fun z mv => ?_)
    rw [List.take_of_length_le (by omega)] at g
    exact wpAny_pure (fin z (mv.mono sub) (g.stay fun o e => mv.heap S o hw e))
  | succ r ih =>
    intro i s e0 hi st g fin
    have lt : i < n := by omega
    refine codeAny_builtin F.entry_set_update_loop ?_
    rw [Around.under_plainId F.plain_set_update_loop _]
    refine wpAny_bind (W.item i s _ _ lt st fun v z pv st2 mv => ?_)
    obtain ⟨k, hk, kv⟩ := hv i v pv
    have g2 : SG w z.heap S (uniqK (ks.take i)) := g.stay fun o e => mv.heap S o hw e
    have room : (uniqK (ks.take i)).length + 1 < scanBound := by
      have := (uniqK_facts (ks.take i)).2.2
      rw [List.length_take] at this
      omega
    show wpAny _ A.in1 (holding [v] (setAdd S v) >>= _) _ _ z
    refine wpAny_bind (wpAny_holding ?_)
    unfold setAdd
    refine wpAny_holding (wpAny_bind ((mixKind P w).pyHash (k := k) kv ?_))
    refine sg_add (s := { z with toks := z.toks + 1 }) kv g2 room fun h' sb g3 => ?_
    have e1 : uniqK (ks.take (i + 1)) = insK (uniqK (ks.take i)) k := by
      rw [List.take_add_one, hk]
      exact uniqK_snoc
    rw [← e1] at g3
    refine wpAny_pure ⟨plainId_quiet F.plain_set_update_loop _, ih (i + 1) _ (by omega) lt (W.frame _ z _ _ st2 (Nat.le_succ _) fun b hb o e => ?_) g3 fun z2 mv2 g4 => ?_⟩
    · rw [sb.2 b fun q : b = S => hS (q ▸ hb)]
      exact e
    · refine fin z2 (Moved.trans W.gtrans ((mv.mono sub).then_heap (Nat.le_succ _) fun b o hb e => ?_) mv2) g4
      rw [sb.2 b fun q : b = S => hb (q ▸ List.mem_cons_self)]
      exact e
theorem set_list {l : Addr} {items : Array Value} (ks : List Key) {Q : Value → Shared → Prop} (hh : A.handled = none) (hl : s.heap.IsList l items) (hi : KeysAre items.toList ks) (hb : ks.length + 1 < scanBound)
    (fin : ∀ (h' : Heap) (tk : Nat), SG w h' s.heap.objs.size (uniqK ks) → (∀ b o, s.heap.get? b = some o → h'.get? b = some o) → Q (.ref s.heap.objs.size) { s with heap := h', toks := tk }) :
    wpAny (model P w) A (call (.type "set") [.ref l]) Q E s := by
  have sz : items.size = ks.length := by
    have q := hi.len
    rwa [Array.length_toList] at q
  obtain ⟨c, tl, hmro⟩ := F.called_set.mro
  have hmade := F.called_set.made
  have hsub := F.called_set.sub
  have h1 := F.called_set.notType
  have h2 := F.called_set.canCreate
  have hct := F.typeCall_set_1 (.ref l)
  refine wpAny_call (codeAny_of_tree (wpAny_pure ⟨Code.quiet_builtin _ (by decide +kernel), codeAny_builtin F.entry_type_call ?_⟩))
  rw [Around.under_plain (weight_type_call_type "set" [.ref l] []) rfl]
  repeat (any_goals (first | assumption | wp_step))
  generalize hE : ({ cls := .type "set", dict := none, data := .set #[] 0 (.fresh 0 0 (!w.params.followText "set-order")) } : Obj) = emp
  refine codeAny_mono (code_set_led1 (.ref l) (E := E) (Q₁ := fun obj z => obj = .ref s.heap.objs.size ∧ z = { s with heap := s.heap.push emp }) (by rw [hE]; exact ⟨rfl, rfl⟩)) fun r z hr => ?_
  cases r with
  | error e => exact hr
  | ok fl =>
    cases fl with
    | ret obj =>
      obtain ⟨rfl, rfl⟩ := hr
      have at0 : (s.heap.push emp).get? s.heap.objs.size = some emp := Heap.get?_push_size _ (by rw [← hE]; rfl)
      have hT : Shared.TypeIs { s with heap := s.heap.push emp } (.ref s.heap.objs.size) "set" := ⟨_, at0, by rw [← hE]⟩
      have hli := F.called_set.init.lookup
      have hbi := F.called_set.init.bind (.ref s.heap.objs.size)
      repeat (any_goals (first | assumption | wp_step))
      refine codeAny_mono (codeAny_call_builtin (R := wants (fun r z => r = .none ∧ ∃ h' tk, z = { s with heap := h', toks := tk } ∧ SG w h' s.heap.objs.size (uniqK ks) ∧ ∀ b o, s.heap.get? b = some o → h'.get? b = some o) E) F.called_set.init.plain F.entry_set_init (check_set_init_1 hT ?_)) fun r2 z2 hr2 => ?_
      · obtain ⟨⟨cls, dct, dat, sl⟩, hol, hcl, nl, hdl⟩ := hl
        simp only at hcl hdl
        subst hcl hdl
        have hol' : (s.heap.push emp).get? l = some { cls := .type "list", dict := dct, data := .seq items nl, slots := sl } := Heap.get?_push_of_some _ hol
        have is1 := F.sub_list_set
        have is2 := F.sub_list_frozenset
        have is3 : (Value.type "list" == Value.type "dict") = false := by decide
        have hl1 : (s.heap.push emp).IsList l items := ⟨_, hol', rfl, nl, rfl⟩
        have ll : l < s.heap.objs.size := Heap.lt_size hol
        have psz : (s.heap.push emp).objs.size = s.heap.objs.size + 1 := Heap.size_push ..
        have far : l ≠ (s.heap.push emp).objs.size := by rw [psz]; exact Nat.ne_of_lt (Nat.lt_succ_of_lt ll)
        have out : s.heap.objs.size ∉ [(s.heap.push emp).objs.size, l] := by
          rw [psz]
          simp only [List.mem_cons, List.not_mem_nil, or_false, not_or]
          exact ⟨Nat.ne_of_lt (Nat.lt_succ_self _), Nat.ne_of_gt ll⟩
        have new0 : ∀ z : Heap, z.get? s.heap.objs.size = some emp → SG w z s.heap.objs.size [] := fun z e => sg_new (by rw [hE]; exact e)
        subst hE
        unfold Builtin.«set.__init__» noKeywords Builtin.Frozenset.updateFrom
        generalize hPI : pyIter = PI
        wp_walk
        subst hPI
        refine wpAny_pyIter_list hl1 ?_
        refine wpAny_bind (wpAny_runValue ?_)
        refine sg_loop ((Walks.list (A := A.in1.in1.in1) (by simp [hh]) _ l far items).toS) out ks sz hb (fun i v e => hi.at (by rw [Array.getElem?_toList]; exact e)) (items.size - 0) 0 _ (by omega) (Nat.zero_le _)
          ⟨⟨_, Heap.get?_push_size _ rfl, rfl, rfl⟩, hl1.push _⟩ (new0 _ (Heap.get?_push_of_some _ at0)) fun z mv g => ?_
        obtain ⟨hp, g1, d1, tk, o1⟩ := z
        obtain rfl : g1 = s.gens := mv.gens
        obtain rfl : d1 = s.drawn := mv.drawn
        obtain rfl : o1 = s.os := mv.os
        refine wpAny_pure (wpAny_pure ⟨rfl, hp, tk, rfl, g, fun b o e => ?_⟩)
        have lb := Heap.lt_size e
        refine mv.heap b o ?_ (Heap.get?_push_of_some _ (Heap.get?_push_of_some _ e))
        simp only [List.mem_cons, List.not_mem_nil, or_false, not_or]
        exact ⟨Nat.ne_of_lt lb, by rw [psz]; exact Nat.ne_of_lt (Nat.lt_succ_of_lt lb)⟩
      · cases r2 with
        | error e => exact hr2
        | ok f2 =>
          cases f2 with
          | ret r =>
            obtain ⟨rfl, hp, tk, rfl, g, kp⟩ := hr2
            repeat (any_goals (first | assumption | wp_step))
            exact fin _ _ g kp
          | _ => exact hr2.elim
    | _ => exact hr.elim
theorem set_tuple {l : Addr} {items : Array Value} (ks : List Key) {Q : Value → Shared → Prop} (hh : A.handled = none) (hl : s.heap.IsTuple l items) (hi : KeysAre items.toList ks) (hb : ks.length + 1 < scanBound)
    (fin : ∀ (h' : Heap) (tk : Nat), SG w h' s.heap.objs.size (uniqK ks) → (∀ b o, s.heap.get? b = some o → h'.get? b = some o) → Q (.ref s.heap.objs.size) { s with heap := h', toks := tk }) :
    wpAny (model P w) A (call (.type "set") [.ref l]) Q E s := by
  have sz : items.size = ks.length := by
    have q := hi.len
    rwa [Array.length_toList] at q
  obtain ⟨c, tl, hmro⟩ := F.called_set.mro
  have hmade := F.called_set.made
  have hsub := F.called_set.sub
  have h1 := F.called_set.notType
  have h2 := F.called_set.canCreate
  have hct := F.typeCall_set_1 (.ref l)
  refine wpAny_call (codeAny_of_tree (wpAny_pure ⟨Code.quiet_builtin _ (by decide +kernel), codeAny_builtin F.entry_type_call ?_⟩))
  rw [Around.under_plain (weight_type_call_type "set" [.ref l] []) rfl]
  repeat (any_goals (first | assumption | wp_step))
  generalize hE : ({ cls := .type "set", dict := none, data := .set #[] 0 (.fresh 0 0 (!w.params.followText "set-order")) } : Obj) = emp
  refine codeAny_mono (code_set_led1 (.ref l) (E := E) (Q₁ := fun obj z => obj = .ref s.heap.objs.size ∧ z = { s with heap := s.heap.push emp }) (by rw [hE]; exact ⟨rfl, rfl⟩)) fun r z hr => ?_
  cases r with
  | error e => exact hr
  | ok fl =>
    cases fl with
    | ret obj =>
      obtain ⟨rfl, rfl⟩ := hr
      have at0 : (s.heap.push emp).get? s.heap.objs.size = some emp := Heap.get?_push_size _ (by rw [← hE]; rfl)
      have hT : Shared.TypeIs { s with heap := s.heap.push emp } (.ref s.heap.objs.size) "set" := ⟨_, at0, by rw [← hE]⟩
      have hli := F.called_set.init.lookup
      have hbi := F.called_set.init.bind (.ref s.heap.objs.size)
      repeat (any_goals (first | assumption | wp_step))
      refine codeAny_mono (codeAny_call_builtin (R := wants (fun r z => r = .none ∧ ∃ h' tk, z = { s with heap := h', toks := tk } ∧ SG w h' s.heap.objs.size (uniqK ks) ∧ ∀ b o, s.heap.get? b = some o → h'.get? b = some o) E) F.called_set.init.plain F.entry_set_init (check_set_init_1 hT ?_)) fun r2 z2 hr2 => ?_
      · obtain ⟨⟨cls, dct, dat, sl⟩, hol, hcl, nl, hdl⟩ := hl
        simp only at hcl hdl
        subst hcl hdl
        have hol' : (s.heap.push emp).get? l = some { cls := .type "tuple", dict := dct, data := .seq items nl, slots := sl } := Heap.get?_push_of_some _ hol
        have is1 := F.sub_tuple_set
        have is2 := F.sub_tuple_frozenset
        have is3 : (Value.type "tuple" == Value.type "dict") = false := by decide
        have hl1 : (s.heap.push emp).IsTuple l items := ⟨_, hol', rfl, nl, rfl⟩
        have ll : l < s.heap.objs.size := Heap.lt_size hol
        have psz : (s.heap.push emp).objs.size = s.heap.objs.size + 1 := Heap.size_push ..
        have far : l ≠ (s.heap.push emp).objs.size := by rw [psz]; exact Nat.ne_of_lt (Nat.lt_succ_of_lt ll)
        have out : s.heap.objs.size ∉ [(s.heap.push emp).objs.size, l] := by
          rw [psz]
          simp only [List.mem_cons, List.not_mem_nil, or_false, not_or]
          exact ⟨Nat.ne_of_lt (Nat.lt_succ_self _), Nat.ne_of_gt ll⟩
        have new0 : ∀ z : Heap, z.get? s.heap.objs.size = some emp → SG w z s.heap.objs.size [] := fun z e => sg_new (by rw [hE]; exact e)
        subst hE
        unfold Builtin.«set.__init__» noKeywords Builtin.Frozenset.updateFrom
        generalize hPI : pyIter = PI
        wp_walk
        subst hPI
        refine wpAny_pyIter_tuple hl1 ?_
        refine wpAny_bind (wpAny_runValue ?_)
        refine sg_loop ((Walks.tuple (A := A.in1.in1.in1) (by simp [hh]) _ l far items).toS) out ks sz hb (fun i v e => hi.at (by rw [Array.getElem?_toList]; exact e)) (items.size - 0) 0 _ (by omega) (Nat.zero_le _)
          ⟨⟨_, Heap.get?_push_size _ rfl, rfl, rfl⟩, hl1.push _⟩ (new0 _ (Heap.get?_push_of_some _ at0)) fun z mv g => ?_
        obtain ⟨hp, g1, d1, tk, o1⟩ := z
        obtain rfl : g1 = s.gens := mv.gens
        obtain rfl : d1 = s.drawn := mv.drawn
        obtain rfl : o1 = s.os := mv.os
        refine wpAny_pure (wpAny_pure ⟨rfl, hp, tk, rfl, g, fun b o e => ?_⟩)
        have lb := Heap.lt_size e
        refine mv.heap b o ?_ (Heap.get?_push_of_some _ (Heap.get?_push_of_some _ e))
        simp only [List.mem_cons, List.not_mem_nil, or_false, not_or]
        exact ⟨Nat.ne_of_lt lb, by rw [psz]; exact Nat.ne_of_lt (Nat.lt_succ_of_lt lb)⟩
      · cases r2 with
        | error e => exact hr2
        | ok f2 =>
          cases f2 with
          | ret r =>
            obtain ⟨rfl, hp, tk, rfl, g, kp⟩ := hr2
            repeat (any_goals (first | assumption | wp_step))
            exact fin _ _ g kp
          | _ => exact hr2.elim
    | _ => exact hr.elim
end
end L3

/-! sorted(set(xs)) -/
namespace L3
open PySem PySem.Spec PyProof.Rows L2
def kd : Key → PyData
  | .inl i => .int i
  | .inr x => .str x
/-- all numbers, or all texts -/
def OneKind (ks : List Key) : Prop := (∀ k ∈ ks, ∃ i, k = Sum.inl i) ∨ ∀ k ∈ ks, ∃ x, k = Sum.inr x
theorem OneKind.sub {ks js : List Key} (h : OneKind ks) (s : ∀ k ∈ js, k ∈ ks) : OneKind js := h.imp (fun h k hk => h k (s k hk)) fun h k hk => h k (s k hk)
theorem OneKind.alike {ks : List Key} (h : OneKind ks) : PySem.W.AllAlike (ks.map kd) := fun d hd d' hd' => by
  obtain ⟨j, hj, rfl⟩ := List.mem_map.mp hd
  obtain ⟨k, hk, rfl⟩ := List.mem_map.mp hd'
  rcases h with h | h
  · obtain ⟨x, rfl⟩ := h j hj
    obtain ⟨y, rfl⟩ := h k hk
    simp [kd, PySem.W.alike]
  · obtain ⟨x, rfl⟩ := h j hj
    obtain ⟨y, rfl⟩ := h k hk
    simp [kd, PySem.W.alike]
theorem kd_sortable {ks : List Key} : PySem.W.Sortable (ks.map kd) := .inr fun d hd => by
  obtain ⟨j, hj, rfl⟩ := List.mem_map.mp hd
  cases j <;> exact ⟨fun e => (nomatch e), fun _ e => (nomatch e)⟩
theorem kd_depth {ks : List Key} : ∀ d ∈ ks.map kd, d.depth = 0 := fun d hd => by
  obtain ⟨j, hj, rfl⟩ := List.mem_map.mp hd
  cases j <;> simp [kd, PyData.depth]
def IsK (v : Value) (d : PyData) : Prop := ∃ k : Key, d = kd k ∧ keyIs k v = true
theorem isK_reads {h : Heap} {v : Value} {d : PyData} (r : IsK v d) : Reads h v d [] := by
  obtain ⟨k, rfl, hk⟩ := r
  rcases keyIs_shape hk with ⟨i, t, rfl, rfl⟩ | ⟨x, t, rfl, rfl⟩
  · exact .int i t
  · exact .str x t
theorem isK_vals : ∀ {vs : List Value} {ds : List PyData}, PySem.W.EachIs IsK vs ds → ∃ ks : List Key, ds = ks.map kd ∧ Vals (ks.map kV) vs
  | _, _, .nil => ⟨[], rfl, .nil⟩
  | _, _, .cons ⟨k, e, hk⟩ t => by
    obtain ⟨ks, h1, h2⟩ := isK_vals t
    refine ⟨k :: ks, by rw [e, h1]; rfl, .cons ?_ h2⟩
    rcases keyIs_shape hk with ⟨i, t, rfl, rfl⟩ | ⟨x, t, rfl, rfl⟩
    · exact ⟨t, rfl⟩
    · exact ⟨t, rfl⟩
section
variable {P : Program} {w : World} {A : Around} {E : Value → Shared → Prop} {s : Shared} {a : Addr} {ks : List Key}
theorem sg_sorted {Q : Value → Shared → Prop} (R : SG w s.heap a ks) (hh : A.handled = none) (hu : A.units + 64 < cLine) (one : OneKind ks)
    (fin : ∀ (z : Shared) (p : Addr) (ys : List Key) (out : List Value) (c : Nat), (∀ b o, s.heap.get? b = some o → z.heap.get? b = some o) → z.gens = s.gens → z.os = s.os → s.heap.objs.size ≤ p →
      z.heap.get? p = some (seqObj "list" out.toArray c) → Vals (ys.map kV) out → ys.map kd = sortD (ks.map kd) → Q (.ref p) z) :
    wpAny (model P w) A (call (.builtin "sorted") [.ref a]) Q E s := by
  obtain ⟨o, es, ep, t, ho, hx, hd, pl, pm, nd, hb, hf, hr, hl⟩ := R
  refine Calls.call_function_entry kind_sorted plain_sorted entry_sorted (args_sorted1 _) ?_
  unfold Builtin.«sorted»
  refine wpAny_bind (m := checkCount "sorted" 1 1 _) (wpAny_pure ?_)
  refine wpAny_bind (collect_set (A := A.in1) hh ⟨o, ho, hx.1, hd⟩ hf hb hr hl fun z vs k1 sz g1 o1 pv => ?_)
  have each : PySem.W.EachIs IsK vs (vs.map fun v => kd (keyV v)) := by
    have all : ∀ v ∈ vs, ∃ k, keyIs k v = true := fun v hv => by
      obtain ⟨e, he, q⟩ := List.mem_map.mp (pv.mem_iff.mp hv)
      obtain ⟨k, hk, _⟩ := pl e he
      exact ⟨k, q ▸ hk⟩
    clear pv
    induction vs with
    | nil => exact .nil
    | cons v vs ih =>
      obtain ⟨k, hk⟩ := all v (List.mem_cons_self ..)
      exact .cons ⟨k, by show kd (keyV v) = kd k; rw [keyV_of hk], hk⟩ (ih fun u hu => all u (List.mem_cons_of_mem _ hu))
  have pk : (vs.map fun v => kd (keyV v)).Perm (ks.map kd) := by
    have q1 := pv.map fun v => kd (keyV v)
    rw [List.map_map] at q1
    have q2 := pm.map kd
    unfold keysE at q2
    rw [List.map_map] at q2
    exact q1.trans q2
  have al : PySem.W.AllAlike (vs.map fun v => kd (keyV v)) := fun d hd d' hd' => one.alike d (pk.mem_iff.mp hd) d' (pk.mem_iff.mp hd')
  have so : PySem.W.Sortable (vs.map fun v => kd (keyV v)) := .inr fun d hd => (kd_sortable (ks := ks)).elim (fun h => by
    obtain ⟨x, r, e⟩ := h d (pk.mem_iff.mp hd)
    obtain ⟨j, _, q⟩ := List.mem_map.mp (pk.mem_iff.mp hd)
    cases j <;> rw [← q] at e <;> cases e) fun h => h d (pk.mem_iff.mp hd)
  have lv : vs.length ≤ sizeLine := by
    rw [pv.length_eq, List.length_map, Array.length_toList]
    exact fits_of_scanBound hb
  refine wpAny_bind (wpAny_newList ?_ lv)
  have at1 : (z.heap.push (seqObj "list" vs.toArray 0)).get? z.heap.objs.size = some (seqObj "list" vs.toArray 0) := Heap.get?_push_size _ rfl
  refine wpAny_bind (wpAny_holding (PySem.W.list_sort_data (enc := id) (R := IsK) (s := { z with heap := z.heap.push (seqObj "list" vs.toArray 0) }) at1 each (by
    have q : PySem.W.EachIs (fun v d => ∃ as, Reads (z.heap.push (seqObj "list" vs.toArray 0)) v (id d) as ∧ z.heap.objs.size ∉ as) vs (vs.map fun v => kd (keyV v)) := each.mono fun v d r => ⟨[], isK_reads r, fun h => nomatch h⟩
    exact q) (by rw [List.map_id]; exact al) (by rw [List.map_id]; exact so) (by rw [List.length_map]; exact lv) (fun d hd => ?_) fun out lo eo => ?_))
  · have e0 := kd_depth (ks := ks) d (pk.mem_iff.mp hd)
    show _ + 1 + d.depth < _
    rw [e0]
    have : A.in1.units ≤ A.units + 1 := by first | exact Nat.le_of_eq rfl | simp
    omega
  · obtain ⟨ys, h1, h2⟩ := isK_vals eo
    obtain ⟨c, hc⟩ := sortedHeap_at (vs := vs) (out := out.toArray) at1
    refine wpAny_pure ⟨_, rfl, fin _ z.heap.objs.size ys out c (fun b u e => ?_) g1 o1 sz hc h2 ?_⟩
    · have q := k1 b u e
      have lt := Heap.lt_size q
      show (sortedHeap (z.heap.push (seqObj "list" vs.toArray 0)) z.heap.objs.size vs out.toArray).get? b = some u
      rw [sortedHeap_old (Nat.ne_of_lt lt) (by rw [size_push']; exact Nat.lt_succ_of_lt lt)]
      exact Heap.get?_push_of_some _ q
    · rw [← h1]
      exact sortD_eq al pk
end
/-! ### as rules of the layer -/
def SetX (w : World) (a : Addr) (ks : List Key) : HO := .ext fun h => SG w h a ks
theorem setX_new {w : World} {P : Program} {H : Hp} {h : Heap} {a : Addr} {ks : List Key} (R : SG w h a ks) : ObjOk P w H h a (SetX w a ks) := by
  have ⟨o, _, _, _, ho, _⟩ := R
  exact ⟨R, ⟨o, ho⟩, fun _ _ p k => SG.stay p k⟩
theorem setX_get {X : Cx} {pins : List (Addr × Obj)} {σ : L2.St} {H : Hp} {s : Shared} {a : Addr} {ks : List Key} (I : Inv X pins σ H s) (ha : H a = some (SetX X.w a ks)) : SG X.w s.heap a ks := (I.hok a _ ha).1
def rSetX (K : Fg) (w : World) : List V → Hp → VK → Prop := fun xs H Q => ∃ (l : Addr) (ks : List Key), xs = [.ref l] ∧ (SqL K H l (ks.map kV) ∨ SqT K H l (ks.map kV)) ∧ ks.length ≤ 1000 ∧ ∀ p, H p = none → Q (.ref p) (upd H p (SetX w p (uniqK ks)))
theorem cr_setX {X : Cx} (hc : X.calm = true) : CallR X (.type "set") (rSetX X.K X.w) := by
  intro pins s σ H xs us Q I r h
  obtain ⟨l, ks, rfl, hq, hl, q⟩ := h
  rw [Vals.ref1 r]
  have sb : ks.length + 1 < scanBound := by unfold scanBound; omega
  rcases hq with hq | hq
  · obtain ⟨its, rv, pt, hz⟩ := I.list hq
    refine set_list ks (I.ok.hd hc) (items := its.toArray) pt.isList (by simpa using keysAre_vals rv) sb fun h' tk R kp => ?_
    exact ⟨.ref _, upd H s.heap.objs.size (SetX X.w s.heap.objs.size (uniqK ks)), I.laid (t' := tk) kp (Nat.le_refl _) (setX_new R), rfl, q _ (I.hok.fresh (Nat.le_refl _))⟩
  · obtain ⟨its, rv, pt, hz⟩ := I.tuple hq
    refine set_tuple ks (I.ok.hd hc) (items := its.toArray) pt (by simpa using keysAre_vals rv) sb fun h' tk R kp => ?_
    exact ⟨.ref _, upd H s.heap.objs.size (SetX X.w s.heap.objs.size (uniqK ks)), I.laid (t' := tk) kp (Nat.le_refl _) (setX_new R), rfl, q _ (I.hok.fresh (Nat.le_refl _))⟩
def rSortX (w : World) : List V → Hp → VK → Prop := fun vs H Q => ∃ (a : Addr) (ks : List Key), vs = [.ref a] ∧ H a = some (SetX w a ks) ∧ OneKind ks ∧ ks.length ≤ 1000 ∧ ∀ (ys : List Key) p, ys.map kd = sortD (ks.map kd) → H p = none → Q (.ref p) (upd H p (.lst (ys.map kV)))
theorem cr_sortX {X : Cx} (hc : X.calm = true) (hu : X.A.units + 64 < cLine) : CallR X (.builtin "sorted") (rSortX X.w) := by
  intro pins s σ H vs us Q I r h
  obtain ⟨a, ks, rfl, ha, one, hl, q⟩ := h
  rw [Vals.ref1 r]
  refine sg_sorted (setX_get I ha) (I.ok.hd hc) hu one fun z p ys out c k g o sz at1 rv e => ?_
  have ln : ys.length = ks.length := by
    have := congrArg List.length e
    rwa [List.length_map, (sortD_perm _).length_eq, List.length_map] at this
  have big : 1000 < sizeLine := by decide
  have hn : H p = none := I.hok.fresh sz
  have J : Inv X pins σ (upd H p (.lst (ys.map kV))) { s with heap := z.heap, gens := z.gens, drawn := z.drawn, toks := z.toks } :=
    I.call (ch := []) (Un.laid k sz hn) (I.hok.laid k sz ⟨by rw [List.length_map]; omega, out, c, rv, at1⟩) (by rw [g]; exact I.bare) (fun _ y => nomatch y)
  have e2 : z = { s with heap := z.heap, gens := z.gens, drawn := z.drawn, toks := z.toks } := by
    obtain ⟨z1, z2, z3, z4, z5⟩ := z
    have o : z5 = s.os := o
    subst o
    rfl
  rw [e2]
  exact ⟨.ref p, _, J, rfl, q ys p e hn⟩
/-- something new that nobody tracks -/
theorem St3.newU {K : Fg} {F G H : Hp} {μ : Mu} {p : Addr} {o : HO} (S : St3 K F G H μ) (h : H p = none) : St3 K F G (upd H p o) μ := by
  refine ⟨fun a u e => ?_, fun a u e => ?_, fun a m e => ?_⟩
  · rw [upd_ne (ne_of_none e (S.gnone h))]; exact S.sub _ _ e
  · obtain ⟨h1, h2, h3⟩ := S.fr _ _ e
    exact ⟨by rw [upd_ne (ne_of_none e (S.fnone h))]; exact h1, h2, h3⟩
  · obtain ⟨h1, h2⟩ := S.mu _ _ e
    exact ⟨h1, h2.other (upd_ne (mne e (S.mnone h)))⟩
theorem rus_keys {K : Fg} {G : Hp} : ∀ {ks : List Key} {vs : List V}, Rus K G vs (ks.map fun k => U.d (kd k)) → vs = ks.map kV
  | [], _, h => by cases h; rfl
  | k :: ks, _, h => by
    cases h with
    | cons h t =>
      rw [rus_keys t]
      cases k with
      | inl i => rw [rp_int h]; rfl
      | inr x => rw [rp_str h]; rfl
theorem keys_rps {K : Fg} {G : Hp} : ∀ ks : List Key, Rps K G (ks.map kV) (ks.map kd)
  | [] => .nil
  | .inl i :: ks => .cons (.int i) (keys_rps ks)
  | .inr x :: ks => .cons (.str x) (keys_rps ks)
/-- sorted(set(xs)) -/
noncomputable def wSortSet (w : WX) : WX := fun ρ μ P => w ρ μ fun u μ1 => ∃ ks : List Key, itemsU μ1 u = some (ks.map fun k => U.d (kd k)) ∧ ks.length ≤ 1000 ∧ OneKind ks ∧ P (.d (.list (sortD ((uniqK ks).map kd)))) μ1
section
variable {K : Fg} {w : World} {X : Cx} {pos p1 p2 q1 : Pos} {e : Expr} {te : TE} {we : WX}
def tSortSet (K : Fg) (w : World) (te : TE) : TE := tCB (rSortX w) (tCons (tCB (rSetX K w) (tCons te tNil)) tNil)
theorem re_sortSet (h : RE K te we) : RE K (tSortSet K w te) (wSortSet we) := fun F G H μ σ ρ P Q S x q => h F G H μ σ ρ _ _ S x fun v u G1 H1 μ1 e1 S1 r1 ⟨ks, hi, hl, one, p⟩ => by
  obtain ⟨a, vs, rfl, hs, r⟩ := itemsU_ok S1 r1 hi
  rw [rus_keys r] at hs
  obtain ⟨f1, f2, f3⟩ := uniqK_facts ks
  refine ⟨a, ks, rfl, hs, hl, fun b hb => ?_⟩
  have S2 : St3 K F G1 (upd H1 b (SetX w b (uniqK ks))) μ1 := S1.newU hb
  refine ⟨b, uniqK ks, rfl, upd_same, one.sub fun k hk => (f2 k).mp hk, by omega, fun ys c e hc => ?_⟩
  obtain ⟨e3, S3⟩ := S2.newG (o := .lst (ys.map kV)) hc
  refine q (.ref c) (.d (.list _)) _ _ μ1 (e1.trans e3) S3 (Rp.lst (SqL.of upd_same) ?_) p
  rw [← e]
  exact keys_rps ys
theorem boot_set' : bootBuiltins "set" = some (.type "set") := by decide +kernel
theorem w_sortSet (hc : X.calm = true) (hu : X.A.units + 64 < cLine) (hg : Gl X "sorted") (hm : X.mg "sorted" = none) (hg2 : Gl X "set") (hm2 : X.mg "set" = none) (h : WE X e te we)
    (he : starEach [e] X.env = (false, eval e X.env) :: starEach [] X.env := by rfl) (hpl : (backTo q1 (starEach [] X.env)).any (·.1) = false := by rfl)
    (he2 : starEach [.Call (.Name "set" p2) [e] [] q1] X.env = (false, eval (.Call (.Name "set" p2) [e] [] q1) X.env) :: starEach [] X.env := by rfl) (hpl2 : (backTo pos (starEach [] X.env)).any (·.1) = false := by rfl) :
    WE X (.Call (.Name "sorted" p1) [.Call (.Name "set" p2) [e] [] q1] [] pos) (tSortSet X.K X.w te) (wSortSet we) :=
  ⟨pe_callB (cr_sortX hc hu) hg hm boot_sorted (pa_cons (pe_callTy (cr_setX hc) hg2 hm2 boot_set' (pa_cons h.pe pa_nil he) (by decide) (by decide) he hpl) pa_nil he2) (by decide) (by decide) he2 hpl2, re_sortSet h.re⟩
end
end L3

/-! len(set(xs)) -/
namespace L3
open PySem PySem.Spec PyProof.Rows L2
def rLenX (w : World) : List V → Hp → VK → Prop := fun vs H Q => ∃ (a : Addr) (ks : List Key), vs = [.ref a] ∧ H a = some (SetX w a ks) ∧ ks.length ≤ 1000 ∧ Q (.int (ks.length : Int)) H
theorem cr_lenX {X : Cx} : CallR X (.builtin "len") (rLenX X.w) := by
  intro pins s σ H vs us Q I r h
  obtain ⟨a, ks, rfl, ha, hl, q⟩ := h
  rw [Vals.ref1 r]
  obtain ⟨o, es, ep, t, ho, hx, hd, pl, pm, nd, hb, hf, hr, hled⟩ := setX_get I ha
  have hn : es.size = ks.length := by have := pm.length_eq; unfold keysE at this; simpa using this
  exact call_len_set ho hx hd hf (by omega) ⟨.int (ks.length : Int), H, I.tok _, ⟨_, by rw [hn]⟩, q⟩
def wLenSet (w : WX) : WX := fun ρ μ P => w ρ μ fun u μ1 => ∃ ks : List Key, itemsU μ1 u = some (ks.map fun k => U.d (kd k)) ∧ ks.length ≤ 1000 ∧ P (.d (.int ((uniqK ks).length : Int))) μ1
section
variable {K : Fg} {w : World} {X : Cx} {pos p1 p2 q1 : Pos} {e : Expr} {te : TE} {we : WX}
def tLenSetX (K : Fg) (w : World) (te : TE) : TE := tCB (rLenX w) (tCons (tCB (rSetX K w) (tCons te tNil)) tNil)
theorem re_lenSet (h : RE K te we) : RE K (tLenSetX K w te) (wLenSet we) := fun F G H μ σ ρ P Q S x q => h F G H μ σ ρ _ _ S x fun v u G1 H1 μ1 e1 S1 r1 ⟨ks, hi, hl, p⟩ => by
  obtain ⟨a, vs, rfl, hs, r⟩ := itemsU_ok S1 r1 hi
  rw [rus_keys r] at hs
  obtain ⟨f1, f2, f3⟩ := uniqK_facts ks
  refine ⟨a, ks, rfl, hs, hl, fun b hb => ?_⟩
  have S2 : St3 K F G1 (upd H1 b (SetX w b (uniqK ks))) μ1 := S1.newU hb
  exact ⟨b, uniqK ks, rfl, upd_same, by omega, q (.int ((uniqK ks).length : Int)) (.d (.int _)) _ _ μ1 e1 S2 (Rp.int _) p⟩
theorem w_lenSet (hc : X.calm = true) (hg : Gl X "len") (hm : X.mg "len" = none) (hg2 : Gl X "set") (hm2 : X.mg "set" = none) (h : WE X e te we)
    (he : starEach [e] X.env = (false, eval e X.env) :: starEach [] X.env := by rfl) (hpl : (backTo q1 (starEach [] X.env)).any (·.1) = false := by rfl)
    (he2 : starEach [.Call (.Name "set" p2) [e] [] q1] X.env = (false, eval (.Call (.Name "set" p2) [e] [] q1) X.env) :: starEach [] X.env := by rfl) (hpl2 : (backTo pos (starEach [] X.env)).any (·.1) = false := by rfl) :
    WE X (.Call (.Name "len" p1) [.Call (.Name "set" p2) [e] [] q1] [] pos) (tLenSetX X.K X.w te) (wLenSet we) :=
  ⟨pe_callB cr_lenX hg hm boot_len (pa_cons (pe_callTy (cr_setX hc) hg2 hm2 boot_set' (pa_cons h.pe pa_nil he) (by decide) (by decide) he hpl) pa_nil he2) (by decide) (by decide) he2 hpl2, re_lenSet h.re⟩
/-- sorted(set(xs)), a list that stays changeable -/
noncomputable def wSortSetM (w : WX) : WX := fun ρ μ P => w ρ μ fun u μ1 => ∃ ks : List Key, itemsU μ1 u = some (ks.map fun k => U.d (kd k)) ∧ ks.length ≤ 1000 ∧ OneKind ks ∧ ∀ p, μ1 p = none → P (.r p) (put μ1 p (.lst ((sortD ((uniqK ks).map kd)).map U.d)))
theorem rps_rus {G : Hp} : ∀ {vs : List V} {ds : List PyData}, Rps K G vs ds → Rus K G vs (ds.map U.d)
  | _, _, .nil => .nil
  | _, _, .cons a r => .cons a (rps_rus r)
theorem re_sortSetM (h : RE K te we) : RE K (tSortSet K w te) (wSortSetM we) := fun F G H μ σ ρ P Q S x q => h F G H μ σ ρ _ _ S x fun v u G1 H1 μ1 e1 S1 r1 ⟨ks, hi, hl, one, p⟩ => by
  obtain ⟨a, vs, rfl, hs, r⟩ := itemsU_ok S1 r1 hi
  rw [rus_keys r] at hs
  obtain ⟨f1, f2, f3⟩ := uniqK_facts ks
  refine ⟨a, ks, rfl, hs, hl, fun b hb => ?_⟩
  have S2 : St3 K F G1 (upd H1 b (SetX w b (uniqK ks))) μ1 := S1.newU hb
  refine ⟨b, uniqK ks, rfl, upd_same, one.sub fun k hk => (f2 k).mp hk, by omega, fun ys c e hc => ?_⟩
  refine q (.ref c) (.r c) G1 _ _ e1 (S2.newM (m := .lst ((sortD ((uniqK ks).map kd)).map U.d)) hc ⟨ys.map kV, upd_same, ?_⟩) rfl (p c (S2.mnone hc))
  rw [← e]
  exact rps_rus (keys_rps ys)
theorem w_sortSetM (hc : X.calm = true) (hu : X.A.units + 64 < cLine) (hg : Gl X "sorted") (hm : X.mg "sorted" = none) (hg2 : Gl X "set") (hm2 : X.mg "set" = none) (h : WE X e te we)
    (he : starEach [e] X.env = (false, eval e X.env) :: starEach [] X.env := by rfl) (hpl : (backTo q1 (starEach [] X.env)).any (·.1) = false := by rfl)
    (he2 : starEach [.Call (.Name "set" p2) [e] [] q1] X.env = (false, eval (.Call (.Name "set" p2) [e] [] q1) X.env) :: starEach [] X.env := by rfl) (hpl2 : (backTo pos (starEach [] X.env)).any (·.1) = false := by rfl) :
    WE X (.Call (.Name "sorted" p1) [.Call (.Name "set" p2) [e] [] q1] [] pos) (tSortSet X.K X.w te) (wSortSetM we) :=
  ⟨(w_sortSet hc hu hg hm hg2 hm2 h he hpl he2 hpl2).pe, re_sortSetM h.re⟩
end
end L3

/-! conditions as trees; they are told apart by what they say (one form each) -/
namespace L3M
open PySem PySem.Spec PyProof.Rows L2
theorem ltS_irrefl (a : Str) : ltS a a = false := decide_eq_false (List.lt_irrefl _)
theorem ltS_trans {a b c : Str} (h : ltS a b = true) (k : ltS b c = true) : ltS a c = true := decide_eq_true (List.lt_trans (of_decide_eq_true h) (of_decide_eq_true k))
theorem ltS_tri {a b : Str} (h : ltS a b = false) (k : ltS b a = false) : a = b := by
  have h1 : ¬ (a.cps.toList < b.cps.toList) := of_decide_eq_false h
  have h2 : ¬ (b.cps.toList < a.cps.toList) := of_decide_eq_false k
  have e : a.cps.toList = b.cps.toList := List.le_antisymm (List.not_lt.mp h2) (List.not_lt.mp h1)
  cases a; cases b
  exact congrArg Str.mk (Array.toList_inj.mp e)
theorem ltS_asymm {a b : Str} (h : ltS a b = true) : ltS b a = false := by
  cases k : ltS b a with
  | false => rfl
  | true => exact absurd (ltS_trans h k) (by rw [ltS_irrefl]; exact Bool.false_ne_true)
theorem ltS_ne {a b : Str} (h : ltS a b = true) : a ≠ b := fun e => by
  rw [e, ltS_irrefl] at h
  cases h
theorem ltS_le {a b : Str} (h : ltS b a = false) : ltS a b = true ∨ a = b := by
  cases k : ltS a b with
  | true => exact .inl rfl
  | false => exact .inr (ltS_tri k h)
end L3M
namespace Cn
open PySem PySem.Spec PyProof.Rows L2 L3 L3M
inductive T where
  | lit (b : Bool)
  | nd (s : Str) (on off : T)
namespace T
def d : T → PyData
  | lit b => .bool b
  | nd s a b => .tuple [.str s, a.d, b.d]
def h : T → Nat
  | lit _ => 0
  | nd _ a b => max a.h b.h + 1
def nm : T → Prop
  | lit _ => True
  | nd s a b => PyData.strOk s = true ∧ a.nm ∧ b.nm
def Ab (x : Str) : T → Prop
  | lit _ => True
  | nd s _ _ => ltS x s = true
def ok : T → Prop
  | lit _ => True
  | nd s a b => a.ok ∧ b.ok ∧ Ab s a ∧ Ab s b ∧ a ≠ b
def ev : T → (Str → Bool) → Bool
  | lit b, _ => b
  | nd s a b, σ => if σ s = true then a.ev σ else b.ev σ
end T
open T
def set (σ : Str → Bool) (x : Str) (v : Bool) : Str → Bool := fun y => if y = x then v else σ y
theorem set_same {σ : Str → Bool} {x : Str} {v : Bool} : set σ x v x = v := if_pos rfl
theorem set_ne {σ : Str → Bool} {x y : Str} {v : Bool} (h : y ≠ x) : set σ x v y = σ y := if_neg h
theorem set_id {σ : Str → Bool} {x : Str} {v : Bool} (h : σ x = v) : set σ x v = σ := by
  funext y
  unfold set
  split
  · rename_i e; rw [e, h]
  · rfl
theorem Ab.trans {x y : Str} {t : T} (h : ltS x y = true) (k : Ab y t) : Ab x t := by
  cases t with
  | lit b => trivial
  | nd s a b => exact ltS_trans h k
theorem ev_ab : ∀ {t : T} {y : Str} {σ : Str → Bool} {v : Bool}, t.ok → Ab y t → t.ev (set σ y v) = t.ev σ
  | lit b, _, _, _, _, _ => rfl
  | nd s a b, y, σ, v, o, k => by
    unfold ev
    rw [set_ne (ltS_ne k).symm, ev_ab o.1 (Ab.trans k o.2.2.1), ev_ab o.2.1 (Ab.trans k o.2.2.2.1)]
theorem ev_on {s : Str} {a b : T} (o : (nd s a b).ok) (σ : Str → Bool) : (nd s a b).ev (set σ s true) = a.ev σ := by
  show (if set σ s true s = true then a.ev (set σ s true) else _) = _
  rw [set_same, if_pos rfl, ev_ab o.1 o.2.2.1]
theorem ev_off {s : Str} {a b : T} (o : (nd s a b).ok) (σ : Str → Bool) : (nd s a b).ev (set σ s false) = b.ev σ := by
  show (if set σ s false s = true then _ else b.ev (set σ s false)) = _
  rw [set_same, if_neg Bool.false_ne_true, ev_ab o.2.1 o.2.2.2.1]
/-- one form for what is said -/
theorem uniq : ∀ (n : Nat) (a b : T), a.h + b.h ≤ n → a.ok → b.ok → (∀ σ, a.ev σ = b.ev σ) → a = b
  | _, lit x, lit y, _, _, _, e => congrArg lit (e fun _ => true)
  | 0, nd _ _ _, _, l, _, _, _ => by unfold T.h at l; omega
  | 0, _, nd _ _ _, l, _, _, _ => by unfold T.h at l; omega
  | n + 1, lit x, nd s u v, l, o, k, e => by
    have hu := uniq n (lit x) u (by simp only [T.h] at l ⊢; omega) o k.1 fun σ => by rw [← ev_on k σ, ← e]; rfl
    have hv := uniq n (lit x) v (by simp only [T.h] at l ⊢; omega) o k.2.1 fun σ => by rw [← ev_off k σ, ← e]; rfl
    exact absurd (hu.symm.trans hv) k.2.2.2.2
  | n + 1, nd s u v, lit x, l, o, k, e => by
    have hu := uniq n u (lit x) (by simp only [T.h] at l ⊢; omega) o.1 k fun σ => by rw [← ev_on o σ, e]; rfl
    have hv := uniq n v (lit x) (by simp only [T.h] at l ⊢; omega) o.2.1 k fun σ => by rw [← ev_off o σ, e]; rfl
    exact absurd (hu.trans hv.symm) o.2.2.2.2
  | n + 1, nd s u v, nd z p q, l, o, k, e => by
    have lu : u.h + (nd z p q).h ≤ n ∧ v.h + (nd z p q).h ≤ n ∧ (nd s u v).h + p.h ≤ n ∧ (nd s u v).h + q.h ≤ n ∧ u.h + p.h ≤ n ∧ v.h + q.h ≤ n := by simp only [T.h] at l ⊢; omega
    cases h1 : ltS s z with
    | true =>
      have hu := uniq n u (nd z p q) lu.1 o.1 k fun σ => by rw [← ev_on o σ, e, ev_ab k h1]
      have hv := uniq n v (nd z p q) lu.2.1 o.2.1 k fun σ => by rw [← ev_off o σ, e, ev_ab k h1]
      exact absurd (hu.trans hv.symm) o.2.2.2.2
    | false =>
      cases h2 : ltS z s with
      | true =>
        have hu := uniq n (nd s u v) p lu.2.2.1 o k.1 fun σ => by rw [← ev_on k σ, ← e, ev_ab o h2]
        have hv := uniq n (nd s u v) q lu.2.2.2.1 o k.2.1 fun σ => by rw [← ev_off k σ, ← e, ev_ab o h2]
        exact absurd (hu.symm.trans hv) k.2.2.2.2
      | false =>
        obtain rfl := ltS_tri h1 h2
        have hu := uniq n u p lu.2.2.2.2.1 o.1 k.1 fun σ => by rw [← ev_on o σ, e, ev_on k]
        have hv := uniq n v q lu.2.2.2.2.2 o.2.1 k.2.1 fun σ => by rw [← ev_off o σ, e, ev_off k]
        rw [hu, hv]
theorem uni {a b : T} (o : a.ok) (k : b.ok) (e : ∀ σ, a.ev σ = b.ev σ) : a = b := uniq _ a b (Nat.le_refl _) o k e

/-! ### as data -/
theorem eqv_d : ∀ a b : T, PyData.eqv a.d b.d = true ↔ a = b
  | lit x, lit y => by
    unfold T.d PyData.eqv
    rw [beq_iff_eq]
    exact ⟨fun h => congrArg lit h, fun h => by cases h; rfl⟩
  | lit x, nd s u v => by
    unfold T.d PyData.eqv
    exact Iff.intro (fun h => nomatch h) (fun h => nomatch h)
  | nd s u v, lit x => by
    unfold T.d PyData.eqv
    exact Iff.intro (fun h => nomatch h) (fun h => nomatch h)
  | nd s u v, nd z p q => by
    have h1 := eqv_d u p
    have h2 := eqv_d v q
    show PyData.eqvAll [.str s, u.d, v.d] [.str z, p.d, q.d] = true ↔ _
    simp only [PyData.eqvAll, Bool.and_eq_true, Bool.and_true, h1, h2]
    show ((s == z) = true ∧ u = p ∧ v = q) ↔ _
    rw [beq_iff_eq]
    exact ⟨fun ⟨a, b, c⟩ => by rw [a, b, c], fun h => by cases h; exact ⟨rfl, rfl, rfl⟩⟩
theorem eqv_dd (a b : T) : PyData.eqv a.d b.d = true ∧ a = b ∨ PyData.eqv a.d b.d = false ∧ a ≠ b := by
  cases e : PyData.eqv a.d b.d with
  | true => exact .inl ⟨rfl, (eqv_d a b).mp e⟩
  | false => exact .inr ⟨rfl, fun h => by rw [(eqv_d a b).mpr h] at e; cases e⟩
theorem d_depth : ∀ a : T, a.d.depth = a.h
  | lit _ => by unfold T.d PyData.depth; rfl
  | nd s u v => by
    have h1 := d_depth u
    have h2 := d_depth v
    show PyData.depthAll [.str s, u.d, v.d] + 1 = max u.h v.h + 1
    simp only [PyData.depthAll, PyData.depth, h1, h2]
    omega
theorem d_canLay : ∀ a : T, a.nm → a.d.canLay0 = true
  | lit _, _ => by unfold T.d PyData.canLay0; rfl
  | nd s u v, ⟨k, h1, h2⟩ => by
    have h1 := d_canLay u h1
    have h2 := d_canLay v h2
    show PyData.canLayAll0 [.str s, u.d, v.d] = true
    simp only [PyData.canLayAll0, PyData.canLay0, h1, h2, k, Bool.and_true]
theorem shp {a : T} (n : a.nm) (h : a.h ≤ 64) : SeqAt.shaped a.d = true := by
  unfold SeqAt.shaped
  rw [d_canLay a n, d_depth]
  simpa using h

/-! ### pieces -/
/-- s stands at the top of t, or above -/
def Ge (s : Str) (t : T) : Prop := Ab s t ∨ ∃ a b, t = nd s a b
def sd (s : Str) (on : Bool) : T → T
  | lit b => lit b
  | nd z a b => if z = s then (if on = true then a else b) else nd z a b
theorem sd_nd {s : Str} {a b : T} {on : Bool} : sd s on (nd s a b) = if on = true then a else b := if_pos rfl
theorem sd_ab {s : Str} {t : T} {on : Bool} (h : Ab s t) : sd s on t = t := by
  cases t with
  | lit b => rfl
  | nd z a b => exact if_neg (ltS_ne h).symm
structure Sd (s : Str) (on : Bool) (t r : T) : Prop where
  ok : r.ok
  nm : r.nm
  ab : Ab s r
  ev : ∀ σ, σ s = on → t.ev σ = r.ev σ
  up : ∀ x, Ab x t → Ab x r
  hl : r.h ≤ t.h
theorem sd_ok {s : Str} {on : Bool} {t : T} (o : t.ok) (n : t.nm) (g : Ge s t) : Sd s on t (sd s on t) := by
  rcases g with g | ⟨a, b, rfl⟩
  · rw [sd_ab g]
    exact ⟨o, n, g, fun _ _ => rfl, fun _ h => h, Nat.le_refl _⟩
  · rw [sd_nd]
    cases on with
    | true => exact ⟨o.1, n.2.1, o.2.2.1, fun σ h => if_pos h, fun x h => Ab.trans h o.2.2.1, by simp only [T.h, if_true]; omega⟩
    | false => exact ⟨o.2.1, n.2.2, o.2.2.2.1, fun σ h => if_neg (by rw [h]; exact Bool.false_ne_true), fun x h => Ab.trans h o.2.2.2.1, by simp only [T.h, Bool.false_eq_true, if_false]; omega⟩
theorem sd_less {s : Str} {on : Bool} {a b : T} : (sd s on (nd s a b)).h < (nd s a b).h := by
  rw [sd_nd]
  cases on
  · simp only [T.h, Bool.false_eq_true, if_false]; omega
  · simp only [T.h, if_true]; omega
open Classical in
noncomputable def node (s : Str) (a b : T) : T := if a = b then a else nd s a b
theorem node_eq {s : Str} {a b : T} (h : a = b) : node s a b = a := if_pos h
theorem node_ne {s : Str} {a b : T} (h : a ≠ b) : node s a b = nd s a b := if_neg h
theorem node_ok {s : Str} {a b : T} (o : a.ok) (k : b.ok) (ha : Ab s a) (hb : Ab s b) : (node s a b).ok := by
  by_cases h : a = b
  · rw [node_eq h]; exact o
  · rw [node_ne h]; exact ⟨o, k, ha, hb, h⟩
theorem node_nm {s : Str} {a b : T} (hs : PyData.strOk s = true) (o : a.nm) (k : b.nm) : (node s a b).nm := by
  by_cases h : a = b
  · rw [node_eq h]; exact o
  · rw [node_ne h]; exact ⟨hs, o, k⟩
theorem node_ev {s : Str} {a b : T} (σ : Str → Bool) : (node s a b).ev σ = if σ s = true then a.ev σ else b.ev σ := by
  by_cases h : a = b
  · rw [node_eq h, h]; split <;> rfl
  · rw [node_ne h]; rfl
theorem node_h {s : Str} {a b : T} : (node s a b).h ≤ max a.h b.h + 1 := by
  by_cases h : a = b
  · rw [node_eq h]; omega
  · rw [node_ne h]; exact Nat.le_refl _
theorem node_up {s x : Str} {a b : T} (hs : ltS x s = true) (ha : Ab s a) : Ab x (node s a b) := by
  by_cases h : a = b
  · rw [node_eq h]; exact Ab.trans hs ha
  · rw [node_ne h]; exact hs
/-- r says f of what c and o say -/
structure Ap (f : Bool → Bool → Bool) (c o r : T) : Prop where
  ok : r.ok
  nm : r.nm
  ev : ∀ σ, r.ev σ = f (c.ev σ) (o.ev σ)
  ab : ∀ x, Ab x c → Ab x o → Ab x r
  h : r.h ≤ c.h + o.h
theorem Ap.node {f : Bool → Bool → Bool} {c o r1 r2 : T} {s : Str} (hs : PyData.strOk s = true) (gc : Ge s c) (go : Ge s o) (ex : (∃ a b, c = nd s a b) ∨ ∃ a b, o = nd s a b) (c1 : c.ok) (c2 : c.nm) (o1 : o.ok) (o2 : o.nm)
    (h1 : Ap f (sd s true c) (sd s true o) r1) (h2 : Ap f (sd s false c) (sd s false o) r2) : Ap f c o (node s r1 r2) := by
  have sc := fun b => sd_ok (on := b) c1 c2 gc
  have so := fun b => sd_ok (on := b) o1 o2 go
  have a1 : Ab s r1 := h1.ab s (sc true).ab (so true).ab
  have a2 : Ab s r2 := h2.ab s (sc false).ab (so false).ab
  refine ⟨node_ok h1.ok h2.ok a1 a2, node_nm hs h1.nm h2.nm, fun σ => ?_, fun x hc ho => ?_, ?_⟩
  · rw [node_ev]
    cases e : σ s with
    | true => rw [if_pos rfl, h1.ev, (sc true).ev σ e, (so true).ev σ e]
    | false => rw [if_neg Bool.false_ne_true, h2.ev, (sc false).ev σ e, (so false).ev σ e]
  · rcases ex with ⟨a, b, rfl⟩ | ⟨a, b, rfl⟩
    · exact node_up hc a1
    · exact node_up ho a1
  · have n := node_h (s := s) (a := r1) (b := r2)
    have l1 := h1.h
    have l2 := h2.h
    have k1 := (sc true).hl
    have k2 := (sc false).hl
    have k3 := (so true).hl
    have k4 := (so false).hl
    rcases ex with ⟨a, b, rfl⟩ | ⟨a, b, rfl⟩
    · have q1 := sd_less (s := s) (on := true) (a := a) (b := b)
      have q2 := sd_less (s := s) (on := false) (a := a) (b := b)
      omega
    · have q1 := sd_less (s := s) (on := true) (a := a) (b := b)
      have q2 := sd_less (s := s) (on := false) (a := a) (b := b)
      omega
end Cn

/-! tables of truths and the one form of a condition -/
namespace Cn
open PySem PySem.Spec PyProof.Rows L2 L3 L3M
def idx : List Bool → Nat
  | [] => 0
  | b :: bs => (if b = true then 2 ^ bs.length else 0) + idx bs
theorem idx_lt : ∀ bs : List Bool, idx bs < 2 ^ bs.length
  | [] => by decide
  | b :: bs => by
    have h := idx_lt bs
    show (if b = true then 2 ^ bs.length else 0) + idx bs < 2 ^ (bs.length + 1)
    rw [Nat.pow_succ]
    split <;> omega
def bitsOf : Nat → Nat → List Bool
  | 0, _ => []
  | n + 1, k => decide (2 ^ n ≤ k) :: bitsOf n (if 2 ^ n ≤ k then k - 2 ^ n else k)
theorem bitsOf_len : ∀ (n k : Nat), (bitsOf n k).length = n
  | 0, _ => rfl
  | n + 1, k => congrArg Nat.succ (bitsOf_len n _)
theorem idx_bitsOf : ∀ (n k : Nat), k < 2 ^ n → idx (bitsOf n k) = k
  | 0, k, h => by
    have : k = 0 := by simpa using h
    subst this
    rfl
  | n + 1, k, h => by
    rw [Nat.pow_succ] at h
    show (if decide (2 ^ n ≤ k) = true then 2 ^ (bitsOf n _).length else 0) + idx (bitsOf n _) = k
    rw [bitsOf_len]
    by_cases hk : 2 ^ n ≤ k
    · rw [if_pos (decide_eq_true hk), if_pos hk, idx_bitsOf n _ (by omega)]
      omega
    · rw [if_neg (by simpa using hk), if_neg hk, idx_bitsOf n _ (by omega)]
      omega
theorem bitsOf_idx : ∀ bs : List Bool, bitsOf bs.length (idx bs) = bs
  | [] => rfl
  | b :: bs => by
    have h := idx_lt bs
    have e := bitsOf_idx bs
    cases b with
    | true =>
      have k : idx (true :: bs) = 2 ^ bs.length + idx bs := rfl
      rw [k]
      show decide (2 ^ bs.length ≤ 2 ^ bs.length + idx bs) :: bitsOf bs.length (if 2 ^ bs.length ≤ 2 ^ bs.length + idx bs then 2 ^ bs.length + idx bs - 2 ^ bs.length else _) = _
      rw [decide_eq_true (by omega), if_pos (by omega), Nat.add_sub_cancel_left, e]
    | false =>
      have k : idx (false :: bs) = idx bs := Nat.zero_add _
      rw [k]
      show decide (2 ^ bs.length ≤ idx bs) :: bitsOf bs.length (if 2 ^ bs.length ≤ idx bs then _ else idx bs) = _
      rw [decide_eq_false (by omega), if_neg (by omega), e]
def tn (n i : Nat) (on : Bool) (k : Nat) : Nat := (if k / max 1 (2 ^ n / 2 ^ (i + 1)) % 2 = 1 then k - 2 ^ n / 2 ^ (i + 1) else k) + if on = true then 2 ^ n / 2 ^ (i + 1) else 0
theorem tn_bits : ∀ n ≤ 5, ∀ i < n, ∀ k < 2 ^ n, ∀ on, tn n i on k = idx ((bitsOf n k).set i on) := by decide +kernel
theorem tn_lt {n i k : Nat} {on : Bool} (hn : n ≤ 5) (hi : i < n) (hk : k < 2 ^ n) : tn n i on k < 2 ^ n := by
  rw [tn_bits n hn i hi k hk]
  have h := idx_lt ((bitsOf n k).set i on)
  rwa [List.length_set, bitsOf_len] at h
/-- names in their order, none twice -/
def Srt (names : List Str) : Prop := names.Pairwise fun a b => ltS a b = true
noncomputable def form : List Str → List Bool → T
  | [], row => .lit (row.headD false)
  | x :: xs, row => node x (form xs (row.drop (row.length / 2))) (form xs (row.take (row.length / 2)))
theorem form_ab : ∀ {names : List Str} {row : List Bool}, Srt names → (form names row).ok ∧ ∀ y, (∀ x ∈ names, ltS y x = true) → T.Ab y (form names row)
  | [], _, _ => ⟨trivial, fun _ _ => trivial⟩
  | x :: xs, row, h => by
    have h := List.pairwise_cons.mp h
    have h1 := form_ab (row := row.drop (row.length / 2)) h.2
    have h2 := form_ab (row := row.take (row.length / 2)) h.2
    have a1 := h1.2 x h.1
    have a2 := h2.2 x h.1
    exact ⟨node_ok h1.1 h2.1 a1 a2, fun y hy => node_up (hy x (List.mem_cons_self ..)) a1⟩
theorem form_nm : ∀ {names : List Str} {row : List Bool}, (∀ x ∈ names, PyData.strOk x = true) → (form names row).nm
  | [], _, _ => trivial
  | x :: xs, row, h => node_nm (h x (List.mem_cons_self ..)) (form_nm fun y hy => h y (List.mem_cons_of_mem _ hy)) (form_nm fun y hy => h y (List.mem_cons_of_mem _ hy))
theorem form_h : ∀ {names : List Str} {row : List Bool}, (form names row).h ≤ names.length
  | [], _ => Nat.le_refl _
  | x :: xs, row => by
    have h1 := form_h (names := xs) (row := row.drop (row.length / 2))
    have h2 := form_h (names := xs) (row := row.take (row.length / 2))
    have := node_h (s := x) (a := form xs (row.drop (row.length / 2))) (b := form xs (row.take (row.length / 2)))
    show (node x _ _).h ≤ xs.length + 1
    omega
theorem form_ev : ∀ {names : List Str} {row : List Bool} (σ : Str → Bool), row.length = 2 ^ names.length → row[idx (names.map σ)]? = some ((form names row).ev σ)
  | [], row, σ, h => by
    have h : row.length = 1 := h
    match row, h with
    | [b], _ => rfl
  | x :: xs, row, σ, h => by
    have hl : row.length / 2 = 2 ^ xs.length := by
      rw [h, List.length_cons, Nat.pow_succ]
      omega
    have h' : row.length = 2 ^ xs.length + 2 ^ xs.length := by rw [h, List.length_cons, Nat.pow_succ]; omega
    have l := idx_lt (xs.map σ)
    rw [List.length_map] at l
    show row[(if σ x = true then 2 ^ (xs.map σ).length else 0) + idx (xs.map σ)]? = some ((node x _ _).ev σ)
    rw [node_ev, List.length_map, hl]
    by_cases hx : σ x = true
    · rw [if_pos hx, if_pos hx, ← form_ev σ (by rw [List.length_drop]; omega), List.getElem?_drop]
    · rw [if_neg hx, if_neg hx, ← form_ev σ (by rw [List.length_take]; omega), List.getElem?_take, if_pos l, Nat.zero_add]
def lk (row : List Bool) (k : Nat) : Bool := row[k]?.getD false
theorem form_lk {names : List Str} {row : List Bool} (σ : Str → Bool) (h : row.length = 2 ^ names.length) : (form names row).ev σ = lk row (idx (names.map σ)) := by
  unfold lk
  rw [form_ev σ h]
  rfl
/-- a condition that says what the table says -/
theorem form_uni {names : List Str} {row : List Bool} {c : T} (hs : Srt names) (hl : row.length = 2 ^ names.length) (o : c.ok) (h : ∀ σ, c.ev σ = lk row (idx (names.map σ))) : c = form names row :=
  uni o (form_ab hs).1 fun σ => by rw [h, form_lk σ hl]
theorem set_map {names : List Str} {σ : Str → Bool} {v : Bool} : ∀ {i : Nat} {x : Str}, Srt names → names[i]? = some x → names.map (Cn.set σ x v) = (names.map σ).set i v := by
  induction names with
  | nil => intro i x _ h; simp at h
  | cons y ys ih =>
    intro i x hs h
    have hs := List.pairwise_cons.mp hs
    cases i with
    | zero =>
      have h : y = x := by simpa using h
      subst h
      rw [List.map_cons, set_same, List.map_cons, List.set_cons_zero]
      refine congrArg _ (List.map_congr_left fun z hz => set_ne ?_)
      exact (ltS_ne (hs.1 z hz)).symm
    | succ i =>
      have h : ys[i]? = some x := by simpa using h
      have hx : x ∈ ys := List.mem_of_getElem? h
      rw [List.map_cons, List.map_cons, List.set_cons_succ, ih hs.2 h, set_ne (ltS_ne (hs.1 x hx))]
theorem set_map_out {names : List Str} {σ : Str → Bool} {v : Bool} {x : Str} (h : x ∉ names) : names.map (Cn.set σ x v) = names.map σ :=
  List.map_congr_left fun z hz => set_ne fun e => h (e ▸ hz)
theorem tn_idx {names : List Str} {σ : Str → Bool} {i : Nat} {x : Str} {on : Bool} (hs : Srt names) (hn : names.length ≤ 5) (hi : names[i]? = some x) : tn names.length i on (idx (names.map σ)) = idx (names.map (Cn.set σ x on)) := by
  have l := idx_lt (names.map σ)
  rw [List.length_map] at l
  have h := List.getElem?_eq_some_iff.mp hi
  rw [tn_bits _ hn i h.1 _ l, set_map hs hi]
  have e := bitsOf_idx (names.map σ)
  rw [List.length_map] at e
  rw [e]
/-- every row of truths is some setting -/
theorem some_set : ∀ {names : List Str} {bs : List Bool}, Srt names → bs.length = names.length → ∃ σ : Str → Bool, names.map σ = bs
  | [], [], _, _ => ⟨fun _ => false, rfl⟩
  | x :: xs, b :: bs, hs, h => by
    have hs := List.pairwise_cons.mp hs
    obtain ⟨σ, e⟩ := some_set (names := xs) (bs := bs) hs.2 (by simpa using h)
    refine ⟨Cn.set σ x b, ?_⟩
    rw [List.map_cons, set_same, set_map_out fun h => ltS_ne (hs.1 x h) rfl, e]
theorem some_k {names : List Str} {k : Nat} (hs : Srt names) (h : k < 2 ^ names.length) : ∃ σ : Str → Bool, idx (names.map σ) = k := by
  obtain ⟨σ, e⟩ := some_set hs (bitsOf_len names.length k)
  exact ⟨σ, by rw [e, idx_bitsOf _ _ h]⟩
end Cn

/-! any, all of a list; f-strings; tuples put together -/
namespace L3
open PySem PySem.Spec PyProof.Rows L2
theorem rus_bools {K : Fg} {G : Hp} : ∀ {bs : List Bool} {vs : List V}, Rus K G vs (bs.map fun b => U.d (.bool b)) → vs = bs.map V.bl
  | [], _, h => by cases h; rfl
  | b :: bs, _, h => by
    cases h with
    | cons h t => rw [rp_bl h, rus_bools t]; rfl
def qAny (f : List Bool → Bool) : WQ := fun us μ P => ∃ (u : U) (bs : List Bool), us = [u] ∧ listU μ u = some (bs.map fun b => U.d (.bool b)) ∧ P (.d (.bool (f bs))) μ
theorem rq_any {K : Fg} {f : List Bool → Bool} {r : List V → Hp → VK → Prop} (hr : ∀ vs H Q, (∃ (a : Addr) (bs : List Bool), vs = [V.ref a] ∧ SqL K H a (bs.map V.bl) ∧ Q (.bl (f bs)) H) → r vs H Q) : RQ K r (qAny f) := fun F G H μ vs us P Q S r ⟨u, bs, e, hl, p⟩ q => by
  subst e
  obtain ⟨v, rfl, rv⟩ := rus1 r
  obtain ⟨a, xs, rfl, h1, h2⟩ := listU_ok S rv hl
  rw [rus_bools h2] at h1
  exact hr _ _ _ ⟨a, bs, rfl, h1, q (.bl _) (.d (.bool _)) G H μ (Ext.refl G) S (Rp.bl _) p⟩
theorem boot_any' : bootBuiltins "any" = some (.builtin "any") := by decide +kernel
theorem boot_all' : bootBuiltins "all" = some (.builtin "all") := by decide +kernel
section
variable {K : Fg} {X : Cx} {pos p : Pos} {e a b : Expr} {es : List Expr} {t : TA} {w : WL} {ta tb : TE} {wa wb : WX}
def w_any (hc : X.calm = true) (hg : Gl X "any") (hm : X.mg "any" = none) (ha : WAr X (e :: es) t w) (he : starEach (e :: es) X.env = (false, eval e X.env) :: starEach es X.env := by rfl) (hpl : (backTo pos (starEach es X.env)).any (·.1) = false := by rfl) := show WE X (.Call (.Name "any" p) (e :: es) [] pos) _ (wQ (qAny fun bs => bs.any id) w) from w_qb (cr_any hc) (rq_any fun _ _ _ h => h) hg hm boot_any' ha (by decide) (by decide) he hpl
def w_all (hc : X.calm = true) (hg : Gl X "all") (hm : X.mg "all" = none) (ha : WAr X (e :: es) t w) (he : starEach (e :: es) X.env = (false, eval e X.env) :: starEach es X.env := by rfl) (hpl : (backTo pos (starEach es X.env)).any (·.1) = false := by rfl) := show WE X (.Call (.Name "all" p) (e :: es) [] pos) _ (wQ (qAny fun bs => bs.all id) w) from w_qb (cr_all hc) (rq_any fun _ _ _ h => h) hg hm boot_all' ha (by decide) (by decide) he hpl
/-! ### f-strings -/
def wFmt (w : WX) : WX := fun ρ μ P => w ρ μ fun u μ1 => (∃ y : Str, u = .d (.str y) ∧ y.length ≤ sizeLine ∧ P (.d (.str y)) μ1) ∨ ∃ i : Int, u = .d (.int i) ∧ i.natAbs.log2 < 1920 ∧ P (.d (.str (toString i))) μ1
theorem re_fmt (h : RE K ta wa) : RE K (tFmt ta) (wFmt wa) := fun F G H μ σ ρ P Q S x q => h F G H μ σ ρ _ _ S x fun v u G1 H1 μ1 e1 S1 r1 p => by
  rcases p with ⟨y, e, hz, p⟩ | ⟨i, e, hz, p⟩
  · subst e
    exact .inl ⟨y, rp_str r1, hz, q (.str y) (.d (.str y)) G1 H1 μ1 e1 S1 (Rp.str y) p⟩
  · subst e
    exact .inr ⟨i, rp_int r1, hz, q (.str _) (.d (.str _)) G1 H1 μ1 e1 S1 (Rp.str _) p⟩
theorem w_fmt (h : WE X a ta wa) : WE X (.FormattedValue a (-1) none pos) (tFmt ta) (wFmt wa) := ⟨pe_fmt h.pe, re_fmt h.re⟩
def wJs : List WX → Str → Rho → Mu → (Str → Mu → Prop) → Prop
  | [], acc, _, μ, P => P acc μ
  | w :: ws, acc, ρ, μ, P => w ρ μ fun u μ1 => ∃ y : Str, u = .d (.str y) ∧ (acc ++ y).length ≤ sizeLine ∧ wJs ws (acc ++ y) ρ μ1 P
inductive WJ (X : Cx) : List Expr → List TE → List WX → Prop
  | nil : WJ X [] [] []
  | cons {e : Expr} {t : TE} {w : WX} {es : List Expr} {ts : List TE} {ws : List WX} : WE X e t w → WJ X es ts ws → WJ X (e :: es) (t :: ts) (w :: ws)
theorem WJ.pj {es : List Expr} {ts : List TE} {ws : List WX} (h : WJ X es ts ws) : PJ X es ts := by
  induction h with
  | nil => exact .nil
  | cons h _ ih => exact .cons h.pe ih
theorem WJ.rj {es : List Expr} {ts : List TE} {ws : List WX} (h : WJ X es ts ws) : ∀ (F G H : Hp) (μ : Mu) (σ : L2.St) (ρ : Rho) (acc : Str) (P : Str → Mu → Prop) (Q : Str → Hp → Prop), Sim X.K F G H μ σ ρ → wJs ws acc ρ μ P →
    (∀ out G' H' μ', Ext G G' → St3 X.K F G' H' μ' → P out μ' → Q out H') → tJs ts acc σ H Q := by
  induction h with
  | nil => exact fun F G H μ σ ρ acc P Q S p q => q acc G H μ (Ext.refl G) S.st p
  | cons h _ ih =>
    intro F G H μ σ ρ acc P Q S p q
    refine h.re F G H μ σ ρ _ _ S p fun v u G1 H1 μ1 e1 S1 r1 ⟨y, e, hz, p1⟩ => ?_
    subst e
    exact ⟨y, rp_str r1, hz, ih F G1 H1 μ1 σ ρ _ P Q (S.mono e1 S1) p1 fun out G2 H2 μ2 e2 S2 p2 => q out G2 H2 μ2 (e1.trans e2) S2 p2⟩
def wJoined (ws : List WX) : WX := fun ρ μ P => wJs ws Str.empty ρ μ fun out μ1 => P (.d (.str out)) μ1
theorem w_joined {v1 v2 : Expr} {rest : List Expr} {ts : List TE} {ws : List WX} (h : WJ X (v1 :: v2 :: rest) ts ws) : WE X (.JoinedStr (v1 :: v2 :: rest) pos) (fun σ H Q => tJs ts Str.empty σ H fun out H1 => Q (.str out) H1) (wJoined ws) :=
  ⟨pe_joined h.pj, fun F G H μ σ ρ P Q S x q => h.rj F G H μ σ ρ Str.empty _ _ S x fun out G1 H1 μ1 e1 S1 p => q (.str out) (.d (.str out)) G1 H1 μ1 e1 S1 (Rp.str out) p⟩
/-! ### tuples put together -/
def sCatT : WR := fun u w μ P => ∃ xs ys : List PyData, u = .d (.tuple xs) ∧ w = .d (.tuple ys) ∧ xs.length + ys.length ≤ sizeLine ∧ P (.d (.tuple (xs ++ ys))) μ
theorem ro_catT : RO K (rCatX K) sCatT := fun F G H μ x y u w P Q S rx ry ⟨xs, ys, e1, e2, z, pp⟩ q => by
  subst e1 e2
  have rx0 := rx
  have ry0 := ry
  obtain ⟨a, vs, rfl, k1, r1⟩ := rp_tup rx
  obtain ⟨b, ws, rfl, k2, r2⟩ := rp_tup ry
  have l1 := r1.length
  have l2 := r2.length
  refine ⟨a, b, vs, ws, rfl, rfl, k1.sq S.sub, k2.sq S.sub, by rw [l1, l2]; exact z, fun e => ?_, fun _ e => ?_, fun _ _ p o hp to => ?_⟩
  · have : xs = [] := List.length_eq_zero_iff.mp (by rw [← l1, e]; rfl)
    subst this
    exact q (.ref b) (.d (.tuple ys)) G H μ (Ext.refl G) S ry0 pp
  · have : ys = [] := List.length_eq_zero_iff.mp (by rw [← l2, e]; rfl)
    subst this
    rw [List.append_nil] at pp
    exact q (.ref a) (.d (.tuple xs)) G H μ (Ext.refl G) S rx0 pp
  · obtain ⟨e, S'⟩ := S.newG (o := .frz o (.tup (vs ++ ws))) hp
    refine q (.ref p) (.d (.tuple (xs ++ ys))) _ _ μ e S' (Rp.tup (.new to) ?_) pp
    have r3 : Rus K G (vs ++ ws) ((xs ++ ys).map U.d) := by
      rw [List.map_append]
      exact (rus_d r1).append (rus_d r2)
    exact (d_rus r3).mono e
def w_addT (ha : WE X a ta wa) (hb : WE X b tb wb) := show WE X (.BinOp a .Add b pos) _ (wOp sCatT wa wb) from w_bin op_catX ro_catT ha hb
/-! ### a, b = x, y -/
def wPar (i j : Nat) (w : WL) : WSt := fun B ρ μ => w ρ μ fun us μ1 => ∃ u v, us = [u, v] ∧ B.nx ((ρ.set i (some u)).set j (some v)) μ1
theorem rs_par {i j : Nat} (h : RA K t w) : RS K (tPar i j t) (wPar i j w) := fun F G H μ σ ρ D B S L q => h F G H μ σ ρ _ _ S q fun vs us G1 H1 μ1 e1 S1 r1 ⟨u, v, e, p⟩ => by
  subst e
  obtain ⟨x, y, rfl, rx, ry⟩ := rus2 r1
  exact ⟨x, y, rfl, L.nx _ G1 H1 _ μ1 e1 (((S.mono e1 S1).set rx).set ry) p⟩
theorem w_par (i j : Nat) {x y : Str} {px py pt : Pos} {kt k2 : Nat} {pt2 : Pos} (hc : X.calm = true) (hN : X.N.Nodup) (ha : WAr X [a, b] t w) (hi : X.N[i]? = some x := by rfl) (hj : X.N[j]? = some y := by rfl) (hij : i ≠ j := by decide)
    (hx : X.env.scope.names.lookup x = some .local := by rfl) (hy : X.env.scope.names.lookup y = some .local := by rfl)
    (hw : swappedStores [.Tuple [.Name x px, .Name y py] kt pt] (.Tuple [a, b] k2 pt2) X.env = pure (some [x, y]) := by rfl)
    (hs : swapsWithSole [.Tuple [.Name x px, .Name y py] kt pt] (.Tuple [a, b] k2 pt2) pos.line X.env = pure false := by rfl) :
    WS X (.Assign [.Tuple [.Name x px, .Name y py] kt pt] (.Tuple [a, b] k2 pt2) pos) (tPar i j t) (wPar i j w) := ⟨ps_par hc hN hi hj hij hx hy ha.pa hw hs, rs_par ha.ra⟩
end
end L3

/-! texts walked and cut; x in l, l.index(x) over data; dict comprehensions, d.update(d) -/
namespace L3
open PySem PySem.Spec PyProof.Rows L2
/-! ### texts -/
def signs (x : Str) : List U := x.cps.toList.map fun c => .d (.str ⟨#[c]⟩)
def jStr (w : WX) : WIt := fun ρ μ P => w ρ μ fun u μ1 => ∃ x, u = .d (.str x) ∧ P (signs x) (fun _ => True) μ1
def wSlS (w : WX) (l h : WO) : WX := fun ρ μ P => w ρ μ fun u μ1 => l ρ μ1 fun lo μ2 => h ρ μ2 fun hi μ3 => ∃ z, u = .d (.str z) ∧ z.length ≤ sizeLine ∧ P (.d (.str (cutS z lo hi))) μ3
section
variable {K : Fg} {X : Cx} {tg e : Expr} {te : TE} {we : WX} {pos p2 : Pos} {lo hi : Option Expr} {tl th : TO} {wl wh : WO}
theorem ri_str (h : RE K te we) : RI K (iStr te) (jStr we) := fun F G H μ σ ρ P R S w q => h F G H μ σ ρ _ _ S w fun v u G1 H1 μ1 e1 S1 r1 ⟨x, e, p⟩ => by
  subst e
  refine ⟨x, rp_str r1, q _ _ _ G1 H1 μ1 e1 S1 (fun F2 G2 H2 μ2 e2 S2 _ i => ⟨fun h => ?_, fun u hu => ?_⟩) p⟩
  · show x.cps.size ≤ i
    simpa [signs] using h
  · have hi : i < x.cps.size := by
      have := (List.getElem?_eq_some_iff.mp hu).1
      simpa [signs] using this
    refine ⟨hi, fun y H' ⟨e3, c, hc, e4⟩ => ?_⟩
    subst e3 e4
    refine ⟨G2, Ext.refl G2, S2, ?_⟩
    have e5 : u = .d (.str ⟨#[c]⟩) := by
      unfold signs at hu
      rw [List.getElem?_map, Array.getElem?_toList, hc] at hu
      exact (Option.some.inj hu).symm
    rw [e5]
    exact Rp.str _
theorem w_seqS (h : WE X e te we) : WI X tg e (iStr te) (jStr we) := ⟨pi_str h.pe, ri_str h.re⟩
theorem re_slS (h : RE K te we) (hl : RPt K tl wl) (hh : RPt K th wh) : RE K (tSl rSlS te tl th) (wSlS we wl wh) := fun F G H μ σ ρ P Q S w q => h F G H μ σ ρ _ _ S w fun v u G1 H1 μ1 e1 S1 r1 p1 =>
  hl F G1 H1 μ1 σ ρ _ _ (S.mono e1 S1) p1 fun lo G2 H2 μ2 e2 S2 p2 => hh F G2 H2 μ2 σ ρ _ _ (S.mono (e1.trans e2) S2) p2 fun hi G3 H3 μ3 e3 S3 ⟨z, e, hz, p3⟩ => by
    subst e
    exact ⟨z, rp_str ((r1.mono e2).mono e3), hz, q (.str _) (.d (.str _)) _ _ μ3 ((e1.trans e2).trans e3) S3 (Rp.str _) p3⟩
theorem w_slS (h : WE X e te we) (hl : WPo X lo tl wl) (hh : WPo X hi th wh) : WE X (.Subscript e (.Slice lo hi none p2) pos) (tSl rSlS te tl th) (wSlS we wl wh) := ⟨pe_slice sl_str h.pe hl.po hh.po, re_slS h.re hl.rp hh.rp⟩
end
/-! ### in, index -/
def sInD (f : Bool → Bool) : WR := fun u w μ P => ∃ (d : PyData) (ds : List PyData), u = .d d ∧ listU μ w = some (ds.map U.d) ∧ SeqAt.shaped d = true ∧ SeqAt.shaped (.list ds) = true ∧ P (.d (.bool (f (ds.any fun z => PyData.eqv z d)))) μ
def mIndexD : WM := fun u vs μ P => ∃ (d : PyData) (ds : List PyData) (j : Nat) (z : PyData), vs = [.d d] ∧ listU μ u = some (ds.map U.d) ∧ SeqAt.shaped (.list ds) = true ∧ SeqAt.shaped d = true ∧ ds[j]? = some z ∧ PyData.eqv z d = true ∧
  (∀ (m : Nat) (z' : PyData), m < j → ds[m]? = some z' → PyData.eqv z' d = false) ∧ P (.d (.int (j : Nat))) μ
section
variable {K : Fg} {X : Cx} {a b o e : Expr} {ta tb to te : TE} {wa wb wo we : WX} {pos apos cpos : Pos} {t : TA} {w : WL}
theorem dp_list {F G H : Hp} {μ : Mu} {v : V} {u : U} {ds : List PyData} (S : St3 K F G H μ) (r : Ru K G v u) (h : listU μ u = some (ds.map U.d)) : ∃ l, v = .ref l ∧ Dp K H v (.list ds) := by
  obtain ⟨l, vs, rfl, h1, h2⟩ := listU_ok S r h
  exact ⟨l, rfl, .lst h1 (Rps.dp S.sub (d_rus h2))⟩
theorem ro_inD : RO K (rInD K) (sInD id) := fun F G H μ x y u w P Q S rx ry ⟨d, ds, e1, e2, s1, s2, p⟩ q => by
  subst e1
  obtain ⟨l, _, hd⟩ := dp_list S ry e2
  exact ⟨d, ds, Rp.dp S.sub rx, hd, s1, s2, q (.bl _) (.d (.bool _)) G H μ (Ext.refl G) S (Rp.bl _) p⟩
theorem ro_notInD : RO K (rNotInD K) (sInD not) := fun F G H μ x y u w P Q S rx ry ⟨d, ds, e1, e2, s1, s2, p⟩ q => by
  subst e1
  obtain ⟨l, _, hd⟩ := dp_list S ry e2
  exact ⟨d, ds, Rp.dp S.sub rx, hd, s1, s2, q (.bl _) (.d (.bool _)) G H μ (Ext.refl G) S (Rp.bl _) p⟩
theorem w_inD (hu : X.A.units + 65 < cLine) (ha : WE X a ta wa) (hb : WE X b tb wb) (hm : behindInMarks .In b = false := by rfl) : WCp X (.Compare a [.In] [b] pos) (tOp (rInD X.K) ta tb) (wOp (sInD id) wa wb) := w_cmpC (op_inD hu) ro_inD ha hb hm
theorem w_notinD (hu : X.A.units + 65 < cLine) (ha : WE X a ta wa) (hb : WE X b tb wb) (hm : behindInMarks .NotIn b = false := by rfl) : WCp X (.Compare a [.NotIn] [b] pos) (tOp (rNotInD X.K) ta tb) (wOp (sInD not) wa wb) := w_cmpC (op_notInD hu) ro_notInD ha hb hm
theorem rm_indexD : RM K (rIndexD K) mIndexD := fun F G H μ x vs u us P Q S rx rv ⟨d, ds, j, z, e1, e2, s1, s2, hz, hj, hn, p⟩ q => by
  subst e1
  obtain ⟨v, rfl, q1⟩ := rus1 rv
  obtain ⟨l, rfl, hd⟩ := dp_list S rx e2
  exact ⟨l, v, d, ds, j, z, rfl, rfl, hd, Rp.dp S.sub q1, s1, s2, hz, hj, hn, q (.int _) (.d (.int _)) G H μ (Ext.refl G) S (Rp.int _) p⟩
theorem units65 {k : Nat} {A : Around} (r : Room k A) : A.units + 65 < cLine := by have := r.un; omega
def w_indexD (hu : X.A.units + 65 < cLine) (ho : WE X o to wo) (ha : WAr X [e] t w)
    (hbase : attributeBase o "index" X.env (eval o X.env) = eval o X.env := by rfl)
    (hfew : ((backTo cpos (starEach [e] X.env)).all (fun x => !x.1) && (backToKw cpos (keywordEach [] X.env)).all (fun x => x.1.isSome)
      && decide (([e] : List Expr).length + ([] : List Keyword).length + (if ([] : List Keyword).isEmpty then 0 else 1) < 30)) = true := by rfl)
    (hline : (apos.endLine == cpos.line) = true := by rfl) (hs : starEach [e] X.env = (false, eval e X.env) :: starEach [] X.env := by rfl) (hplain : (backTo cpos (starEach [] X.env)).any (·.1) = false := by rfl) := show WE X (.Call (.Attribute o "index" apos) [e] [] cpos) _ (wML mIndexD wo w) from
      w_bm PySem.F.slot_list_index PySem.F.type_list_index (mt_indexD hu) rm_indexD ho ha hbase hfew hline hs hplain
end
/-! ### d.update(d) -/
def mergeK (kvs more : List (Key × V)) : List (Key × V) := more.foldl (fun acc kv => putK acc kv.1 kv.2) kvs
def mergeU (kvs more : List (Key × U)) : List (Key × U) := more.foldl (fun acc kv => putU acc kv.1 kv.2) kvs
theorem length_putU {kvs : List (Key × U)} {k : Key} {v : U} : (putU kvs k v).length ≤ kvs.length + 1 := by
  unfold putU
  split <;> simp
theorem length_mergeU : ∀ {more kvs : List (Key × U)}, (mergeU kvs more).length ≤ kvs.length + more.length
  | [], _ => Nat.le_refl _
  | kv :: more, kvs => by
    have h := length_mergeU (more := more) (kvs := putU kvs kv.1 kv.2)
    have g := length_putU (kvs := kvs) (k := kv.1) (v := kv.2)
    show (mergeU (putU kvs kv.1 kv.2) more).length ≤ _
    rw [List.length_cons]
    omega
theorem length_mergeK : ∀ {more kvs : List (Key × V)}, (mergeK kvs more).length ≤ kvs.length + more.length
  | [], _ => Nat.le_refl _
  | kv :: more, kvs => by
    have h := length_mergeK (more := more) (kvs := putK kvs kv.1 kv.2)
    have g := length_putK kvs kv.1 kv.2
    show (mergeK (putK kvs kv.1 kv.2) more).length ≤ _
    rw [List.length_cons]
    omega
theorem kv_merge : ∀ {more : List (Key × V)} {ws : List (Key × Value)} {kvs : List (Key × V)} {vs : List (Key × Value)}, KV kvs vs → KV more ws → KV (mergeK kvs more) (merged vs ws)
  | _, _, _, _, r, .nil => r
  | _, _, kvs, vs, r, .cons (a := (k, v)) (b := (j, u)) ⟨e, h⟩ t => by
    have e : k = j := e
    subst e
    show KV (mergeK (putK kvs k v) _) (merged (stored vs k u) _)
    exact kv_merge (KV.put r k h) t
theorem rkv_merge {K : Fg} {G : Hp} : ∀ {more : List (Key × V)} {ws : List (Key × U)} {kvs : List (Key × V)} {vs : List (Key × U)}, Rkv K G kvs vs → Rkv K G more ws → Rkv K G (mergeK kvs more) (mergeU vs ws)
  | _, _, _, _, r, .nil => r
  | _, _, kvs, vs, r, .cons (k := k) (v := v) (u := u) h t => by
    show Rkv K G (mergeK (putK kvs k v) _) (mergeU (putU vs k u) _)
    exact rkv_merge (rkv_put h r) t
def rUpd : V → List V → Hp → VK → Prop := fun x xs H Q => ∃ (a b : Addr) (kvs more : List (Key × V)), x = .ref a ∧ xs = [.ref b] ∧ a ≠ b ∧ H a = some (.dK kvs) ∧ H b = some (.dK more) ∧ kvs.length + more.length ≤ sizeLine ∧ Q .non (upd H a (.dK (mergeK kvs more)))
theorem mt_update {X : Cx} : MtR X "dict.update" rUpd := by
  intro pins s σ H x xs v us Q I rx rs ⟨a, b, kvs, more, e1, e2, ne, ha, hb, hz, q⟩
  subst e1 e2
  obtain rfl : v = Value.ref a := rx
  rw [Vals.ref1 rs]
  obtain ⟨z1, h1, vs1, r1, d1⟩ := dk_of I.hok ha
  obtain ⟨z2, h2, vs2, r2, d2⟩ := dk_of I.hok hb
  refine call_meetsIn PySem.F.slot_dict_update d1.typeIs PySem.F.entry_dict_update (PySem.F.args_dict_update_2 _ _) (meets_dict_update (mixKind X.prog X.w) a b ne h2) ⟨vs1, vs2, d1, d2, (by rw [← r1.length, ← r2.length]; exact hz), fun h' m1 m2 sb => ?_⟩
  have he : ∃ q, h'.get? a = some q := let ⟨q, _, _, hq, _⟩ := m1; ⟨q, hq⟩
  have lz : (mergeK kvs more).length ≤ sizeLine := Nat.le_trans length_mergeK hz
  exact ⟨.non, _, d_write (t' := s.toks) I (by rw [ha]; exact True.intro) sb he (dk_new lz h1 (kv_merge r1 r2) m1), rfl, q⟩
def mUpd : WM := fun u vs μ P => ∃ (a b : Addr) (kvs more : List (Key × U)), u = .r a ∧ vs = [.r b] ∧ a ≠ b ∧ μ a = some (.dct kvs) ∧ μ b = some (.dct more) ∧ kvs.length + more.length ≤ sizeLine ∧ P (.d .none) (put μ a (.dct (mergeU kvs more)))
def isD (μ : Mu) (u : U) : Prop := ∃ a kvs, u = .r a ∧ μ a = some (.dct kvs)
def wMD (s : WM) (o : WX) (w : WL) : WX := fun ρ μ P => o ρ μ fun u μ1 => isD μ1 u ∧ w ρ μ1 fun us μ2 => s u us μ2 P
section
variable {K : Fg} {X : Cx} {o e : Expr} {es : List Expr} {to : TE} {wo : WX} {t : TA} {w : WL} {apos cpos : Pos} {r : V → List V → Hp → VK → Prop} {s : WM}
theorem rm_upd : RM K rUpd mUpd := fun F G H μ x vs u us P Q S rx rv ⟨a, b, kvs, more, e1, e2, ne, ha, hb, hz, p⟩ q => by
  subst e1 e2
  obtain ⟨v, rfl, q1⟩ := rus1 rv
  obtain ⟨g1, kws, h1, h2⟩ := S.mu _ _ ha
  obtain ⟨g2, mws, h3, h4⟩ := S.mu _ _ hb
  obtain rfl : x = V.ref a := rx
  obtain rfl : v = V.ref b := q1
  refine ⟨a, b, kws, mws, rfl, rfl, ne, h1, h3, by rw [rkv_len h2, rkv_len h4]; exact hz, ?_⟩
  exact q .non (.d .none) G _ _ (Ext.refl G) (S.write (m' := .dct (mergeU kvs more)) ha ⟨mergeK kws mws, upd_same, rkv_merge h2 h4⟩) Rp.non p
theorem isD_ty {F G H : Hp} {μ : Mu} {v : V} {u : U} (S : St3 K F G H μ) (q : Ru K G v u) (h : isD μ u) : tyV K "dict" v H := by
  obtain ⟨a, kvs, rfl, h⟩ := h
  obtain ⟨_, kws, h1, _⟩ := S.mu _ _ h
  obtain rfl : v = V.ref a := q
  exact .inr (.inr (.inl ⟨rfl, .inl ⟨kws, h1⟩⟩))
theorem re_bmD (hr : RM K r s) (ho : RE K to wo) (ha : RA K t w) : RE K (tBM K "dict" r to t) (wMD s wo w) := fun F G H μ σ ρ P Q S x q => ho F G H μ σ ρ _ _ S x fun v u G1 H1 μ1 e1 S1 r1 ⟨hl, p⟩ =>
  ⟨isD_ty S1 r1 hl, ha F G1 H1 μ1 σ ρ _ _ (S.mono e1 S1) p fun vs us G2 H2 μ2 e2 S2 r2 p2 => hr F G2 H2 μ2 v vs u us P Q S2 (r1.mono e2) r2 p2 fun v u G3 H3 μ3 e3 S3 r3 p3 => q v u G3 H3 μ3 ((e1.trans e2).trans e3) S3 r3 p3⟩
theorem w_update (ho : WE X o to wo) (ha : WAr X [e] t w)
    (hbase : attributeBase o "update" X.env (eval o X.env) = eval o X.env := by rfl)
    (hfew : ((backTo cpos (starEach [e] X.env)).all (fun x => !x.1) && (backToKw cpos (keywordEach [] X.env)).all (fun x => x.1.isSome)
      && decide (([e] : List Expr).length + ([] : List Keyword).length + (if ([] : List Keyword).isEmpty then 0 else 1) < 30)) = true := by rfl)
    (hline : (apos.endLine == cpos.line) = true := by rfl) (hs : starEach [e] X.env = (false, eval e X.env) :: starEach [] X.env := by rfl) (hplain : (backTo cpos (starEach [] X.env)).any (·.1) = false := by rfl) :
    WE X (.Call (.Attribute o "update" apos) [e] [] cpos) (tBM X.K "dict" rUpd to t) (wMD mUpd wo w) := ⟨pe_bm PySem.F.plainAttrs_dict PySem.F.slot_dict_update PySem.F.type_dict_update mt_update ho.pe ha.pa hbase hfew hline hs hplain, re_bmD rm_upd ho.re ha.ra⟩
end
end L3

/-! dict comprehensions -/
namespace L3
open PySem PySem.Spec PyProof.Rows L2
def dcGo (g : WTg) (wt : WB) (wk wv : WX) (Al : Mu → Prop) : List U → List (Key × U) → Rho → Mu → (List (Key × U) → Mu → Prop) → Prop
  | [], acc, _, μ, P => Al μ ∧ P acc μ
  | u :: us, acc, ρ, μ, P => Al μ ∧ g u ρ μ fun ρ1 μ1 => wt ρ1 μ1 fun b μ2 => if b = true then wk ρ1 μ2 fun k μ3 => wv ρ1 μ3 fun y μ4 => ∃ j, k = kU j ∧ acc.length < sizeLine ∧ dcGo g wt wk wv Al us (putU acc j y) ρ μ4 P
    else dcGo g wt wk wv Al us acc ρ μ2 P
def wDc (it : WIt) (vs : List Nat) (g : WTg) (wt : WB) (wk wv : WX) : WX := fun ρ μ P => it ρ μ fun us Al μ1 => dcGo g wt wk wv Al us [] (wipeR ρ vs) μ1 fun kvs μ2 => ∀ p, μ2 p = none → P (.r p) (put μ2 p (.dct kvs))
section
variable {K : Fg} {wi : TI} {wj : WIt} {g : TG} {wg : WTg} {tt : TT} {wt : WB} {tk tv : TE} {wk wv : WX} {vs : List Nat}
theorem re_dc (hi : RI K wi wj) (hg : RG K g wg) (go : GOnly g vs) (ht : RT K tt wt) (hk : RE K tk wk) (he : RE K tv wv) : RE K (tDc wi g tt tk tv vs) (wDc wj vs wg wt wk wv) := fun F G H μ σ ρ P Q S w q => by
  refine hi F G H μ σ ρ _ _ S w fun J us Al G0 H0 μ0 e0 S0 jw p D hD => ?_
  have hFD := S0.fnone hD
  refine ⟨fun i m H => m = us.length - i ∧ i ≤ us.length ∧ ∃ G1 μ acc ys, Ext G0 G1 ∧ St3 K (upd F D (.dK acc)) G1 H μ ∧ Rkv K G1 acc ys ∧ dcGo wg wt wk wv Al (us.drop i) ys (wipeR ρ vs) μ fun kvs μ2 => ∀ p, μ2 p = none → P (.r p) (put μ2 p (.dct kvs)),
    ⟨us.length, by simp, Nat.zero_le _, G0, μ0, [], [], Ext.refl _, S0.newF hD, .nil, p⟩, ?_⟩
  rintro i m H1 ⟨rfl, hi, G1, μ1, acc, ys, e1, S1, r1, w1⟩
  by_cases hlt : i < us.length
  · have hd : us.drop i = us[i] :: us.drop (i + 1) := List.drop_eq_getElem_cons hlt
    rw [hd] at w1
    obtain ⟨al, w1⟩ := w1
    obtain ⟨_, hu⟩ := jw _ G1 H1 μ1 e1 S1 al i
    obtain ⟨hgo, hy⟩ := hu us[i] (List.getElem?_eq_getElem hlt)
    let Nx : Hp → Prop := fun H => ∃ G1 μ acc ys, Ext G0 G1 ∧ St3 K (upd F D (.dK acc)) G1 H μ ∧ Rkv K G1 acc ys ∧ dcGo wg wt wk wv Al (us.drop (i + 1)) ys (wipeR ρ vs) μ fun kvs μ2 => ∀ p, μ2 p = none → P (.r p) (put μ2 p (.dct kvs))
    refine .inr ⟨hgo, Nx, fun H' z => ⟨us.length - (i + 1), by omega, rfl, hlt, z⟩, fun x H2 yl => ?_⟩
    obtain ⟨G2, e2, S2, r2⟩ := hy x H2 yl
    have Sw : Sim K (upd F D (.dK acc)) G2 H2 μ1 (wipe σ vs) (wipeR ρ vs) := ⟨S2, (S.wipe vs).len, fun j u h => by
      obtain ⟨v, h1, h2⟩ := (S.wipe vs).sl j u h
      exact ⟨v, h1, h2.mono ((e0.trans e1).trans e2)⟩⟩
    have key := go x (wipe σ vs) H2 _ (hg _ G2 H2 μ1 (wipe σ vs) (wipeR ρ vs) x us[i] _ (fun σ3 H3 => tt σ3 H3 fun b H3 =>
      if b = true then tk σ3 H3 fun y H4 => tv σ3 H4 fun z H5 => ∃ kvs k, y = kV k ∧ H5 D = some (.dK kvs) ∧ kvs.length < sizeLine ∧ Nx (upd H5 D (.dK (putK kvs k z))) else Nx H3) Sw r2 w1 fun σ3 G3 H3 ρ3 μ3 e3 S3 w3 => ?_)
    · rw [wipe_wipe] at key
      exact key
    · refine ht _ G3 H3 μ3 σ3 ρ3 _ _ S3 w3 fun b G4 H4 μ4 e4 S4 w4 => ?_
      cases b with
      | true =>
        show tk σ3 H4 _
        refine hk _ G4 H4 μ4 σ3 ρ3 _ _ (S3.mono e4 S4) w4 fun y u G5 H5 μ5 e5 S5 r5 w5 => ?_
        refine he _ G5 H5 μ5 σ3 ρ3 _ _ (S3.mono (e4.trans e5) S5) w5 fun z t G6 H6 μ6 e6 S6 r6 ⟨j, ej, hz, w6⟩ => ?_
        subst ej
        obtain ⟨hD6, _, _⟩ := S6.fr D _ upd_same
        have e16 : Ext G1 G6 := (((e2.trans e3).trans e4).trans e5).trans e6
        exact ⟨acc, j, ru_key r5, hD6, by rw [rkv_len r1]; exact hz, G6, μ6, _, _, e1.trans e16, S6.setF, rkv_put r6 (r1.mono e16), w6⟩
      | false => exact ⟨G4, μ4, acc, ys, ((e1.trans e2).trans e3).trans e4, S4, r1.mono ((e2.trans e3).trans e4), w4⟩
  · have hd : us.drop i = [] := List.drop_eq_nil_of_le (by omega)
    rw [hd] at w1
    obtain ⟨al, w1⟩ := w1
    obtain ⟨hs, _⟩ := jw _ G1 H1 μ1 e1 S1 al i
    obtain ⟨h1, h2, h3⟩ := S1.fr D _ upd_same
    exact .inl ⟨hs (by omega), q (.ref D) (.r D) G1 H1 _ (e0.trans e1) (S1.unFM (m := .dct ys) hFD ⟨acc, h1, r1⟩) rfl (w1 D h3)⟩
end
section
variable {X : Cx} {kx vx tg iter : Expr} {ifs : List Expr} {scope : Scope} {pos : Pos} {wi : TI} {wj : WIt} {g : TG} {wg : WTg} {tt : TT} {wt : WB} {tk tv : TE} {wk wv : WX}
theorem w_dc1 (v : Str) (k : Nat) (hc : X.calm = true) (hN : X.N.Nodup) (hi : WI X tg iter wi wj) (ok : BlkOk X.N X.env.scope scope [(v, k)]) (go : GOnly g [k])
    (_ : WG (X.blk X.s_0 X.H_0 scope (compEnvC scope [] 0 X.env) []) tg g wg) (_ : WTs (X.blk X.s_0 X.H_0 scope (compEnvC scope [] 0 X.env) []) ifs tt wt) (_ : WE (X.blk X.s_0 X.H_0 scope (compEnvC scope [] 0 X.env) []) kx tk wk) (_ : WE (X.blk X.s_0 X.H_0 scope (compEnvC scope [] 0 X.env) []) vx tv wv)
    (hg : ∀ (s : Shared) (H : Hp) (C : Addr) (cl : List (Str × Addr)) (fp : List Addr), WG (X.blk s H scope (compEnvC scope cl C X.env) fp) tg g wg) (ht : ∀ (s : Shared) (H : Hp) (C : Addr) (cl : List (Str × Addr)) (fp : List Addr), WTs (X.blk s H scope (compEnvC scope cl C X.env) fp) ifs tt wt)
    (hk : ∀ (s : Shared) (H : Hp) (C : Addr) (cl : List (Str × Addr)) (fp : List Addr), WE (X.blk s H scope (compEnvC scope cl C X.env) fp) kx tk wk)
    (he : ∀ (s : Shared) (H : Hp) (C : Addr) (cl : List (Str × Addr)) (fp : List Addr), WE (X.blk s H scope (compEnvC scope cl C X.env) fp) vx tv wv) (hs : ∀ x, foldedSetIterable iter X.env x = pure x := by intro _; rfl) :
    WE X (.DictComp kx vx [⟨tg, iter, ifs, 0⟩] scope pos) (tDc wi g tt tk tv [k]) (wDc wj [k] wg wt wk wv) :=
  ⟨pe_dc (own := [(v, k)]) hc hN hi.pi ok (fun s H C cl fp => (hg s H C cl fp).pg) (fun s H C cl fp => (ht s H C cl fp).pt) (fun s H C cl fp => (hk s H C cl fp).pe) (fun s H C cl fp => (he s H C cl fp).pe) hs,
    re_dc hi.ri (hg X.s_0 X.H_0 0 [] []).rg go (ht X.s_0 X.H_0 0 [] []).rt (hk X.s_0 X.H_0 0 [] []).re (he X.s_0 X.H_0 0 [] []).re⟩
end
/-! ### a temporary thing forgotten behind a statement -/
def wDropF (w : L3.WX) : WSt := fun B ρ μ => w ρ μ fun _ μ1 => ∃ μ2 : Mu, (∀ a m, μ2 a = some m → μ1 a = some m) ∧ B.nx ρ μ2
theorem St3.less {K : Fg} {F G H : Hp} {μ μ2 : Mu} (S : St3 K F G H μ) (h : ∀ a m, μ2 a = some m → μ a = some m) : St3 K F G H μ2 := by
  refine ⟨S.sub, fun a o e => ?_, fun a m e => S.mu a m (h a m e)⟩
  obtain ⟨h1, h2, h3⟩ := S.fr a o e
  refine ⟨h1, h2, ?_⟩
  cases q : μ2 a with
  | none => rfl
  | some m =>
    rw [h a m q] at h3
    cases h3
theorem w_exprF {X : Cx} {e : Expr} {pos : Pos} {te : TE} {we : L3.WX} (h : WE X e te we) (hs : swapsWith e none pos.line X.env = pure false := by rfl) : WS X (.Expr e pos) (tDrop te) (wDropF we) :=
  ⟨ps_expr h.pe hs, fun F G H μ σ ρ D B S L w => h.re F G H μ σ ρ _ _ S w fun v u G1 H1 μ1 e1 S1 r1 ⟨μ2, k, p⟩ => L.nx σ G1 H1 ρ μ2 e1 (S.mono e1 (S1.less k)) p⟩
theorem dcGo_inv {g : WTg} {wt : WB} {wk wv : L3.WX} {Al : Mu → Prop} {us : List U} {ρ : Rho} {μ : Mu} {P : List (Key × U) → Mu → Prop} (I : Nat → List (Key × U) → Mu → Prop) (h0 : I 0 [] μ) (al : ∀ j acc μ, I j acc μ → Al μ)
    (step : ∀ (j : Nat) (hj : j < us.length) (acc : List (Key × U)) (μ : Mu) (N : List (Key × U) → Mu → Prop), I j acc μ → (∀ acc' μ', I (j + 1) acc' μ' → N acc' μ') → g us[j] ρ μ fun ρ1 μ1 => wt ρ1 μ1 fun b μ2 => if b = true then wk ρ1 μ2 fun k μ3 => wv ρ1 μ3 fun y μ4 => ∃ j, k = kU j ∧ acc.length < sizeLine ∧ N (putU acc j y) μ4 else N acc μ2)
    (fin : ∀ acc μ, I us.length acc μ → P acc μ) : dcGo g wt wk wv Al us [] ρ μ P := by
  have key : ∀ (k j : Nat) (acc : List (Key × U)) (μ : Mu), us.length - j = k → j ≤ us.length → I j acc μ → dcGo g wt wk wv Al (us.drop j) acc ρ μ P := by
    intro k
    induction k with
    | zero =>
      intro j acc μ hk hj h
      have e : j = us.length := by omega
      subst e
      rw [List.drop_length]
      exact ⟨al _ _ _ h, fin _ _ h⟩
    | succ k ih =>
      intro j acc μ hk hj h
      have hj' : j < us.length := by omega
      rw [List.drop_eq_getElem_cons hj']
      exact ⟨al _ _ _ h, step j hj' acc μ _ h fun acc' μ' h' => ih (j + 1) acc' μ' (by omega) hj' h'⟩
  have := key us.length 0 [] μ (by omega) (Nat.zero_le _) h0
  rwa [List.drop_zero] at this
end L3

/-! comprehensions and loops over known things, once for all -/
namespace L3
open PySem PySem.Spec PyProof.Rows L2
theorem gT_tup {l : List WTg} {ds : List PyData} {ρ : Rho} {μ : Mu} {P : Rho → Mu → Prop} : gT l (.d (.tuple ds)) ρ μ P ↔ ds.length = l.length ∧ gT.gGo l (ds.map U.d) ρ μ P :=
  ⟨fun ⟨_, e, h⟩ => by cases e; exact h, fun h => ⟨ds, rfl, h⟩⟩
theorem gGo_nil {us : List U} {ρ : Rho} {μ : Mu} {P : Rho → Mu → Prop} : gT.gGo [] us ρ μ P ↔ P ρ μ := Iff.rfl
theorem gGo_cons {g : WTg} {gs : List WTg} {u : U} {us : List U} {ρ : Rho} {μ : Mu} {P : Rho → Mu → Prop} : gT.gGo (g :: gs) (u :: us) ρ μ P ↔ g u ρ μ fun ρ1 μ1 => gT.gGo gs us ρ1 μ1 P :=
  ⟨fun ⟨_, _, e, h⟩ => by cases e; exact h, fun h => ⟨u, us, rfl, h⟩⟩
theorem take_filter {α : Type} {p : α → Bool} {xs : List α} {j : Nat} (hj : j < xs.length) : (xs.take (j + 1)).filter p = (xs.take j).filter p ++ if p xs[j] = true then [xs[j]] else [] := by
  rw [List.take_succ_eq_append_getElem hj, List.filter_append]
  cases h : p xs[j] <;> simp [h]
/-- [f x for x in xs if p x], any target -/
theorem lc_gen {α : Type} {g : WTg} {wt : WB} {we : L3.WX} {Al : Mu → Prop} {ρ : Rho} {μ : Mu} {P : List U → Mu → Prop} (xs : List α) (enc : α → U) (p : α → Bool) (f : α → PyData) (big : xs.length < sizeLine) (al : Al μ)
    (step : ∀ x ∈ xs, ∀ (Y : U → Mu → Prop) (N : Mu → Prop), (p x = true → Y (.d (f x)) μ) → (p x = false → N μ) → g (enc x) ρ μ fun ρ1 μ1 => wt ρ1 μ1 fun b μ2 => if b = true then we ρ1 μ2 Y else N μ2)
    (fin : P (((xs.filter p).map f).map U.d) μ) : lcGo g wt we Al (xs.map enc) [] ρ μ P := by
  refine lcGo_inv (fun j acc μ' => acc = (((xs.take j).filter p).map f).map U.d ∧ μ' = μ) ⟨rfl, rfl⟩ (fun j acc μ' ⟨_, e⟩ => e ▸ al) (fun j hj acc μ' N ⟨h1, h3⟩ hN => ?_) (fun acc μ' ⟨h1, h3⟩ => ?_)
  · subst h1 h3
    have hj : j < xs.length := by simpa using hj
    have hx : (xs.map enc)[j]'(by simpa using hj) = enc xs[j] := by simp
    rw [hx]
    have ll := List.length_filter_le p (xs.take j)
    rw [List.length_take] at ll
    refine step _ (List.getElem_mem hj) _ _ (fun h => ⟨?_, hN _ _ ⟨?_, rfl⟩⟩) fun h => hN _ _ ⟨?_, rfl⟩
    · simp only [List.length_map]; omega
    · rw [take_filter hj, if_pos h]; simp
    · rw [take_filter hj, h]; simp
  · subst h1 h3
    rw [List.length_map, List.take_length]
    exact fin
/-- the same without a test -/
theorem lc_all {α : Type} {g : WTg} {we : L3.WX} {Al : Mu → Prop} {ρ : Rho} {μ : Mu} {P : List U → Mu → Prop} (xs : List α) (enc : α → U) (f : α → PyData) (big : xs.length < sizeLine) (al : Al μ)
    (step : ∀ x ∈ xs, ∀ (Y : U → Mu → Prop), Y (.d (f x)) μ → g (enc x) ρ μ fun ρ1 μ1 => we ρ1 μ1 Y)
    (fin : P ((xs.map f).map U.d) μ) : lcGo g wYes we Al (xs.map enc) [] ρ μ P :=
  lc_gen xs enc (fun _ => true) f big al (fun x hx Y N h1 _ => by
    have := step x hx Y (h1 rfl)
    simpa only [wYes, if_true] using this) (by rw [List.filter_eq_self.mpr fun _ _ => rfl]; exact fin)
end L3

/-! sorted with a key that is a part of the item: the keys read off what stood in memory before, lists too -/
namespace L3Key
open PySem PySem.Spec PySem.W PySem.Calls PyProof.Rows
mutual
theorem reads_at {h : Heap} : ∀ {d : PyData} {v : Value} {as : List Addr}, alike d d = true → Reads h v d as → ∀ a ∈ as, h.get? a ≠ none
  | .none, _, _, _, r => by cases r; simp
  | .bool _, _, _, _, r => by cases r; simp
  | .int _, _, _, _, r => by cases r; simp
  | .str _, _, _, _, r => by cases r; simp
  | .list xs, _, _, al, r => by
    cases r with
    | list g1 _ _ g4 =>
      intro x hx
      rcases List.mem_cons.mp hx with e | hx
      · rw [e, g1]; simp
      · exact readsAll_at (by simpa [alike] using al) g4 x hx
  | .tuple xs, _, _, al, r => by
    cases r with
    | tuple _ _ _ g4 => exact readsAll_at (by simpa [alike] using al) g4
  | .dict _, _, _, al, _ => absurd al (by simp [alike])
theorem readsAll_at {h : Heap} : ∀ {ds : List PyData} {vs : List Value} {as : List Addr}, alikeAll ds ds = true → ReadsAll h vs ds as → ∀ a ∈ as, h.get? a ≠ none
  | [], _, _, _, r => by cases r; simp
  | d :: ds, _, _, al, r => by
    cases r with
    | cons g1 g2 =>
      intro x hx
      rcases List.mem_append.mp hx with hx | hx
      · exact reads_at (alike_all_cons al).1 g1 x hx
      · exact readsAll_at (alike_all_cons al).2 g2 x hx
end
section
variable {prog : Program} {w : World} {A : Around} {E : Value → Shared → Prop} {s : Shared} {a kS : Addr} {vs : List Value} {e1 : Nat} {P : PySem.Fin → Shared → Prop} {kz : List PyData} {old : Addr → Prop}
/-- the value reads as k, off old objects alone -/
def OldKey (old : Addr → Prop) (h : Heap) (v : Value) (k : PyData) : Prop := alike k k = true ∧ ∃ as, Reads h v k as ∧ ∀ x ∈ as, old x
/-- a call of the key: all stays, the answer reads as k off old objects -/
def KeyTurn (old : Addr → Prop) (k : PyData) (s₁ : Shared) (v : Value) (s₂ : Shared) : Prop := ∃ (g : Heap) (t : Nat), s₂ = { s₁ with heap := g, toks := t } ∧ (∀ b o, s₁.heap.get? b = some o → g.get? b = some o) ∧ OldKey old g v k
theorem OldKey.keep {h g : Heap} (k : ∀ b o, h.get? b = some o → g.get? b = some o) {v : Value} {d : PyData} (r : OldKey old h v d) : OldKey old g v d :=
  let ⟨al, as, r, m⟩ := r; ⟨al, as, PyProof.Rows.Reads.keeps k r, m⟩
theorem OldKey.but {h g : Heap} {c : Addr} {ws : Array Value} {n : Nat} (no : ¬ old c) (hc : h.get? c = some (seqObj "list" ws n)) (k : ∀ b o, b ≠ c → h.get? b = some o → g.get? b = some o) {v : Value} {d : PyData} (r : OldKey old h v d) : OldKey old g v d := by
  obtain ⟨al, as, r, m⟩ := r
  exact ⟨al, as, Reads.keepBut k (fun o q => by rw [hc] at q; cases q; rfl) d v as al r fun z => no (m c z), m⟩
/-- the keys gathered so far stand in the list at kS -/
def Gath (old : Addr → Prop) (a kS : Addr) (e1 : Nat) (h₁ : Heap) (kz : List PyData) (s : Shared) (i : Nat) (s' : Shared) : Prop :=
  ∃ (g : Heap) (t : Nat) (ws : Array Value) (n : Nat), s' = { s with heap := g, toks := t } ∧ KeepsBut a h₁ g ∧ g.get? kS = some (seqObj "list" ws n) ∧ g.get? a = some (seqObj "list" #[] e1) ∧ EachIs (OldKey old g) ws.toList (kz.take i)
theorem gather {f : Value} {h₁ : Heap} (no : ¬ old kS) (kp : KeepsBut a h₁ s.heap) (fr : h₁.get? kS = none) (nk : s.heap.get? kS = some (seqObj "list" #[] 0)) (na : s.heap.get? a = some (seqObj "list" #[] e1)) (ne : kS ≠ a)
    (hl : kz.length = vs.length) (big : vs.length ≤ sizeLine) (hal : AllAlike kz) (hs : Sortable kz) (room : ∀ d, d ∈ kz → A.units + d.depth < cLine)
    (turn : ∀ (i : Nat) (v : Value) (k : PyData), vs[i]? = some v → kz[i]? = some k → ∀ (g : Heap) (t : Nat), KeepsBut a h₁ g → wpAny (model prog w) A (call f [v]) (KeyTurn old k { s with heap := g, toks := t }) (fun _ _ => False) { s with heap := g, toks := t })
    (fin : ∀ g t out c, KeepsBut a h₁ g → g.get? a = some (seqObj "list" (List.toArray out) c) → KeyedOut false kz vs out → P (.done (.ret .none)) { s with heap := g, toks := t }) : wpAny (model prog w) A (ksk_rest a f false vs.toArray e1 (.ref kS)) P E s := by
  unfold ksk_rest
  apply wpAny_bind; apply wpAny_rule
  rw [List.forIn_toArray]
  have start : Gath old a kS e1 h₁ kz s 0 s := ⟨s.heap, s.toks, #[], 0, rfl, kp, nk, na, .nil⟩
  refine wpAny_bind (ksk_fold (Gath old a kS e1 h₁ kz s) vs 0 s start (fun j x s' hx J => ?_) fun s' J => ?_)
  · rw [Nat.zero_add] at J ⊢
    obtain ⟨g, t, ws, n, e0, kp', nk', na', hk⟩ := J
    subst e0
    have lj : j < vs.length := (List.getElem?_eq_some_iff.mp hx).1
    have hkj : kz[j]? = some (kz[j]'(by omega)) := List.getElem?_eq_getElem _
    have few : ws.size ≤ vs.length := by
      have q := hk.length
      simp only [Array.length_toList, List.length_take] at q
      omega
    refine wpAny_bind (wpAny_attempt (wpAny_mono (turn j x _ hx hkj g t kp') (fun v s'' q => ?_) fun _ _ z => z.elim))
    obtain ⟨g2, t2, e2, gk, ok⟩ := q
    subst e2
    have nk2 := gk _ _ nk'
    have na2 := gk _ _ na'
    have same := Heap.SameBut.update g2 kS (Obj.mapSeq (·.push v))
    have up := get?_update_seq nk2 (·.push v)
    have hard : (kA : Array Value) → kA.size ≤ vs.length → (kA.push v).size ≤ sizeLine + 1 := fun kA q => by rw [Array.size_push]; omega
    refine wpAny_bind (listUpdate_at nk2 rfl (wpAny_pure ⟨rfl, ⟨_, _, ws.push v, _, rfl, KeepsBut.same (KeepsBut.trans_all kp' gk) same (.inr fr), up, (same.2 a ne.symm).trans na2, ?_⟩⟩) (Nat.le_trans few big) (hard ws few))
    have mv : ∀ (u : Value) (d : PyData), OldKey old g2 u d → OldKey old (g2.update kS (Obj.mapSeq (·.push v))) u d := fun u d q => q.but no nk2 fun b o hb q => (same.2 b hb).trans q
    rw [List.take_add_one, hkj, Array.toList_push]
    exact each_snoc (mv _ _ ok) (hk.mono fun u d q => mv u d (q.keep gk))
  · obtain ⟨g, t, ws, n, e0, kp', nk', na', hk⟩ := J
    subst e0
    rw [Nat.zero_add, ← hl, List.take_length] at hk
    have rd : EachIs (fun v k => ∃ as, Reads g v k as) ws.toList kz := hk.mono fun v k ⟨_, as, r, _⟩ => ⟨as, r⟩
    have sz : ws.size = vs.length := by rw [← hl, ← rd.length, Array.length_toList]
    refine wpAny_bind (listItems_at nk' rfl (keyH_end (κ := dataKind g kz) (h₁ := h₁) kp' fr nk' na' ne (SortsAt.data (s := { s with heap := g, toks := t }) rd hal hs room) sz big fun g3 t3 c k3 n3 => ?_))
    exact fin g3 t3 _ c k3 n3 ⟨g, ws.toList, hal, rfl, rd⟩
/-- xs.sort(key=f), no key read off xs or off anything newer -/
theorem sort_old {fa : Addr} {m : Nat} (new : ∀ c, s.heap.objs.size ≤ c → ¬ old c) (ho : s.heap.get? a = some (seqObj "list" vs.toArray m)) (hl : kz.length = vs.length) (big : vs.length ≤ sizeLine) (hal : AllAlike kz) (hs : Sortable kz) (room : ∀ d, d ∈ kz → A.units + d.depth < cLine)
    (turn : ∀ (i : Nat) (v : Value) (k : PyData), vs[i]? = some v → kz[i]? = some k → ∀ (g : Heap) (t : Nat), KeepsBut a s.heap g → wpAny (model prog w) A (call (.ref fa) [v]) (KeyTurn old k { s with heap := g, toks := t }) (fun _ _ => False) { s with heap := g, toks := t })
    (fin : ∀ g t out c, KeepsBut a s.heap g → g.get? a = some (seqObj "list" (List.toArray out) c) → KeyedOut false kz vs out → P (.done (.ret .none)) { s with heap := g, toks := t }) : wpAny (model prog w) A (ksk_tree a (.ref fa) false) P E s := by
  have la : a < s.heap.objs.size := Heap.lt_size ho
  obtain ⟨e1, ho1⟩ : ∃ m, (s.heap.update a (Obj.mapSeq fun _ => (#[] : Array Value))).get? a = some (seqObj "list" #[] m) := ⟨_, get?_update_seq ho fun _ => #[]⟩
  have sz : ((s.heap.update a (Obj.mapSeq fun _ => (#[] : Array Value))).push (seqObj "tuple" vs.toArray 0)).objs.size = s.heap.objs.size + 1 := by rw [size_push', Heap.size_update]
  have kp : KeepsBut a s.heap (((s.heap.update a (Obj.mapSeq fun _ => (#[] : Array Value))).push (seqObj "tuple" vs.toArray 0)).push (seqObj "list" #[] 0)) := fun b o hb q => sortingHeap_old hb q
  have at_a := Heap.get?_push_of_some (seqObj "list" #[] 0) (Heap.get?_push_of_some (seqObj "tuple" vs.toArray 0) ho1)
  have at_k : (((s.heap.update a (Obj.mapSeq fun _ => (#[] : Array Value))).push (seqObj "tuple" vs.toArray 0)).push (seqObj "list" #[] 0)).get? ((s.heap.update a (Obj.mapSeq fun _ => (#[] : Array Value))).push (seqObj "tuple" vs.toArray 0)).objs.size = some (seqObj "list" #[] 0) := Heap.get?_push_size _ rfl
  unfold ksk_tree
  refine wpAny_bind (listItems_at ho rfl (wpAny_bind (listUpdate_at ho rfl ?_ (by rw [List.size_toArray]; exact big) (Nat.zero_le _))))
  refine wpAny_bind (seqEpoch_at ho1 rfl (wpAny_bind (wpAny_newTuple ?_ (show vs.length ≤ _ from big))))
  refine wpAny_bind (wpAny_newList (wpAny_holding ?_) (Nat.zero_le _))
  exact gather (kS := ((s.heap.update a (Obj.mapSeq fun _ => (#[] : Array Value))).push (seqObj "tuple" vs.toArray 0)).objs.size) (s := { s with heap := ((s.heap.update a (Obj.mapSeq fun _ => (#[] : Array Value))).push (seqObj "tuple" vs.toArray 0)).push (seqObj "list" #[] 0) }) (old := old) (kz := kz) (h₁ := s.heap) (new _ (by omega)) kp (Heap.get?_none_of_le (by omega)) at_k at_a (Nat.ne_of_gt (by rw [sz]; exact Nat.lt_succ_of_lt la)) hl big hal hs room turn fin
end
section
variable {prog : Program} {w : World} {A : Around} {E : Value → Shared → Prop} {s : Shared} {β : Type} {vs : List Value} {bs : List β} {R : Value → β → Prop}
/-- sorted(xs, key=f), the keys parts of what stood in memory before the call -/
theorem sorted_old {l fa : Addr} {Q : Value → Shared → Prop} (k : β → PyData) (hl : s.heap.IsList l vs.toArray) (e : EachIs R vs bs) (hal : AllAlike (bs.map k)) (hk : Sortable (bs.map k)) (big : bs.length ≤ sizeLine) (room : ∀ x, x ∈ bs → A.units + 2 + (k x).depth < cLine)
    (turn : ∀ (v : Value) (x : β), R v x → x ∈ bs → ∀ (g : Heap) (t : Nat), (∀ b o, s.heap.get? b = some o → g.get? b = some o) → wpAny (model prog w) A.in1.in1 (call (.ref fa) [v]) (KeyTurn (fun b => s.heap.get? b ≠ none) (k x) { s with heap := g, toks := t }) (fun _ _ => False) { s with heap := g, toks := t })
    (fin : ∀ out c g t, (∀ b o, s.heap.get? b = some o → g.get? b = some o) → g.get? (s.heap.objs.size + 1) = some (seqObj "list" (List.toArray out) c) → EachIs R out (bs.mergeSort (dataLe false k)) → Q (.ref (s.heap.objs.size + 1)) { s with heap := g, toks := t }) :
    wpAny (model prog w) A (call (.builtin "sorted") [.ref l] [(Str.ofString "key", .ref fa)]) Q E s := by
  have le := e.length
  have ml : (bs.map k).length = vs.length := by rw [List.length_map, le]
  have big' : vs.length ≤ sizeLine := by rw [le]; exact big
  have up : ∀ {g : Heap}, KeepsBut (s.heap.objs.size + 1) (copyHeap s.heap vs) g → ∀ b o, s.heap.get? b = some o → g.get? b = some o := fun kp b o q => kp b o (Nat.ne_of_lt (Nat.lt_succ_of_lt (Heap.lt_size q))) (copyHeap_old q)
  have la : s.heap.objs.size + 1 < (copyHeap s.heap vs).objs.size := Heap.lt_size (copyHeap_at s.heap vs)
  have new : ∀ c, (copyHeap s.heap vs).objs.size ≤ c → ¬ s.heap.get? c ≠ none := fun c hc z => z (Heap.get?_none_of_le (by omega))
  refine sorted_of_sort hl big' (ksk_s1 _ _) (fun _ => ksk_l1 _ _) fun E' => ?_
  rw [ksk_t1]
  refine sort_old (s := { s with heap := copyHeap s.heap vs }) (old := fun b => s.heap.get? b ≠ none) (kz := bs.map k) new (copyHeap_at s.heap vs) ml big' hal hk (fun d hd => ?_) (fun i v d hv hd g t kp => ?_) fun g t out c kp hD ko => ⟨rfl, ?_⟩
  · obtain ⟨b, hb, e2⟩ := List.mem_map.mp hd
    rw [← e2]
    exact room b hb
  · rw [List.getElem?_map] at hd
    obtain ⟨x, hx, e2⟩ := Option.map_eq_some_iff.mp hd
    subst e2
    exact turn v x (e.zip (v, x) (List.mem_of_getElem? (i := i) (List.getElem?_zip_eq_some.mpr ⟨hv, hx⟩))) (List.mem_of_getElem? hx) g t (up kp)
  · exact fin out c g t (up kp) hD (keyedOut_each k ko e)
end
end L3Key

/-! sorted(xs, key=lambda x: x[0]) -/
namespace L3
open PySem PySem.Spec PyProof.Rows L2

/-- the function object of a lambda that captures nothing -/
def LamO (f c : Addr) (q : Str) (params : Arguments) (body : Expr) (scope : Scope) : HO := .ext fun h => ∃ pm ctv : Value, h.get? f = some (PySem.W.kla_obj "<lambda>" q params body scope [] pm c ctv)
/-- every code object that the table tells bears the name q -/
def Among (H : Hp) (q : Str) (ps : Array Value) : Prop := TriplesOk ps.toList ∧ ∀ (pos : Pos) (cv : Value), codeAmong pos ps.toList = some cv → ∃ c, cv = .ref c ∧ H c = some (LamX.CodeO c q)
def tLam (P : Addr) (q : Str) (params : Arguments) (body : Expr) (scope : Scope) : TE := fun _ H Q => ∃ ps, H P = some (.tbl ps) ∧ Among H q ps ∧
  (∀ pos c f, codeAmong pos ps.toList = some (.ref c) → H f = none → Q (.ref f) (upd H f (LamO f c q params body scope))) ∧
  (∀ c f ps', H c = none → TriplesOk ps'.toList → (∀ (pos : Pos) (cv : Value), codeAmong pos ps'.toList = some cv → cv = .ref c ∨ codeAmong pos ps.toList = some cv) → upd H c (LamX.CodeO c q) f = none → Q (.ref f) (upd (upd (upd H c (LamX.CodeO c q)) P (.tbl ps')) f (LamO f c q params body scope)))
theorem upd_comm {H : Hp} {a b : Addr} {o u : HO} (h : a ≠ b) : upd (upd H a o) b u = upd (upd H b u) a o := by
  funext x
  by_cases h1 : x = a
  · subst h1
    rw [upd_ne h, upd_same, upd_same]
  · by_cases h2 : x = b
    · subst h2
      rw [upd_same, upd_ne h1, upd_same]
    · rw [upd_ne h2, upd_ne h1, upd_ne h1, upd_ne h2]
section
variable {X : Cx} {pins : List (Addr × Obj)} {σ : L2.St} {H : Hp} {s : Shared}
theorem inv_lam {c : Addr} {q : Str} {params : Arguments} {body : Expr} {scope : Scope} {pm ctv : Value} {h' : Heap} {tk : Nat} (I : Inv X pins σ H { s with heap := h', toks := tk }) :
    Inv X pins σ (upd H h'.objs.size (LamO h'.objs.size c q params body scope)) { s with heap := h'.push (PySem.W.kla_obj "<lambda>" q params body scope [] pm c ctv), toks := tk } := by
  have at_f : (h'.push (PySem.W.kla_obj "<lambda>" q params body scope [] pm c ctv)).get? h'.objs.size = some (PySem.W.kla_obj "<lambda>" q params body scope [] pm c ctv) := Heap.get?_push_size _ rfl
  exact I.laid (fun b u e => Heap.get?_push_of_some _ e) (Nat.le_refl _) ⟨⟨pm, ctv, at_f⟩, ⟨_, at_f⟩, fun h1 h2 ⟨p, t, z⟩ st => ⟨p, t, st _ z⟩⟩
theorem pe_lam {c P : Addr} {params : Arguments} {body : Expr} {scope : Scope} {pos : Pos} (TB : LamX.TabB X.base X.mg c P) (hcode : X.env.code = .ref c) (hnf : ∀ y ∈ scope.names, y.2 ≠ .free) (hcl : ∀ cells, cloFrom cells scope.names [] = []) (hdef : defaultsOf params X.env = ([], [])) :
    PE X (.Lambda params body scope pos) (tLam P (X.env.qual ++ "<lambda>") params body scope) := by
  refine ⟨fun pins s σ H Q I h => PySem.W.kla_eval hdef ?_⟩
  obtain ⟨ps, hP, ⟨tr, am⟩, old, new⟩ := h
  have clo : closureFor scope X.env = pure [] := by rw [closure_ok fun y hy e => absurd e (hnf y hy), hcl]
  have bP := TB.bm.keeps I.bk
  have tabP : s.heap.get? P = some { cls := .none, data := .fields ps } := I.hok P _ hP
  have glob := I.mod.glob.keeps I.bk
  have head := TB.code.keeps I.bk
  cases hc : codeAmong pos ps.toList with
  | some cv =>
    obtain ⟨c', e, known⟩ := am pos cv hc
    subst e
    refine PySem.W.kla_makeFunctionHit (mg := X.mg) (c := c) (P := P) (ps := ps) clo I.ok.glob glob hcode head tabP tr hc bP fun ctv h' tk kp big => ?_
    have I1 : Inv X pins σ H { s with heap := h', toks := tk } := I.kept kp
    exact ⟨.ref _, _, inv_lam I1, rfl, old pos c' _ hc (I.hok.fresh big)⟩
  | none =>
    refine PySem.W.kla_makeFunction (mg := X.mg) (c := c) (P := P) (ps := ps) clo I.ok.glob glob hcode head tabP tr hc TB.gP bP fun c' ctv h' tk kp big lt rc tb => ?_
    obtain ⟨c2, oc, vs, t, ec, hoc, hd, hv⟩ := rc
    cases ec
    have nc : H c' = none := I.hok.fresh big
    have nP : P ≠ c' := ne_of_none hP nc
    have I1 := LamX.inv_table (q := X.env.qual ++ "<lambda>") (t' := tk) (more := #[rawInt pos.line, rawInt pos.col, .ref c']) (h' := h') I hP kp tb big ⟨oc, vs, t, hoc, hd, hv⟩
    rw [upd_comm nP] at I1
    have nf : H h'.objs.size = none := I.hok.fresh (Nat.le_trans big (Nat.le_of_lt lt))
    have el : (ps ++ #[rawInt pos.line, rawInt pos.col, .ref c']).toList = ps.toList ++ [rawInt pos.line, rawInt pos.col, .ref c'] := by simp
    exact ⟨.ref _, _, inv_lam I1, rfl, new c' _ _ nc (by rw [el]; exact PySem.TriplesOk_snoc _ _ _ _ tr) (fun p' cv hcv => by rw [el] at hcv; exact (LamX.among_app _ tr hcv).symm) (by rw [upd_ne (Nat.ne_of_gt lt)]; exact nf)⟩
end
/-! ### the sorting -/
/-- the first part of a tuple -/
def key0 : PyData → PyData
  | .tuple (k :: _) => k
  | d => d
def sortK (ds : List PyData) : List PyData := ds.mergeSort (PySem.W.dataLe false key0)
theorem sortK_perm (ds : List PyData) : (sortK ds).Perm ds := List.mergeSort_perm _ _
/-- a lambda of one name, x: x[0] -/
structure LamHead (q : Str) (params : Arguments) (body : Expr) (scope : Scope) (x : Str) : Prop where
  shape : ∃ p1 p2 p3 k, body = .Subscript (.Name x p1) (.Constant (.int 0) k p2) p3
  kind : scope.kind = .function
  co : scope.isCoroutine = false
  gen : scope.isGenerator = false
  nocell : ∀ y ∈ scope.names, y.2 ≠ .cell
  loc : scope.names.lookup x = some .local
  dbg : (x == ("__debug__" : Str)) = false
  bind : ∀ (pm cd ctv v : Value), bindArgs (PySem.W.kla_fn "<lambda>" q params body scope [] pm cd ctv) ⟨[v], []⟩ = pure [(x, v)]
section
variable {X : Cx} {pins : List (Addr × Obj)} {σ : L2.St} {H : Hp} {s : Shared}
theorem lam_run {prog : Program} {w : World} {A : Around} {f c : Addr} {q x : Str} {params : Arguments} {body : Expr} {scope : Scope} {pm ctv v : Value} {s : Shared} {Q : Value → Shared → Prop} {E : Value → Shared → Prop} (L : LamHead q params body scope x) (hf : s.heap.get? f = some (PySem.W.kla_obj "<lambda>" q params body scope [] pm c ctv))
    (rc : s.heap.CodeRec (.ref c) q) (dp : A.depth < recursionLimit) (lim : s.heap.NoLimit) {t : Addr} {its : Array Value} {w0 : Value} (hv : v = .ref t) (ht : IsTup s.heap t its) (h0 : its[0]? = some w0) (hsz : its.size ≤ sizeLine)
    (fin : ∀ g tk, (∀ b o, s.heap.get? b = some o → g.get? b = some o) → Q w0 { s with heap := g, toks := tk }) : wpAny (model prog w) A (call (.ref f) [v]) Q E s := by
  refine wpAny_call (PySem.W.kla_callFunE dp hf rfl L.co L.gen rfl rc ?_)
  rw [L.bind]
  refine wpAny_pure (wpAny_newFunctionEnv L.nocell (fun y hy => by rw [List.mem_singleton.mp hy]; exact L.loc) (fun h₁ hns hsb => ⟨lim.fresh _ hsb, ?_⟩) L.kind)
  have kp : ∀ b o, s.heap.get? b = some o → h₁.get? b = some o := fun b o e => hsb.extBut b o (Nat.ne_of_lt (Heap.lt_size e)) (Heap.get?_push_of_some _ e)
  obtain ⟨p1, p2, p3, k, eb⟩ := L.shape
  subst eb
  refine PySem.W.kla_codeExpr (Subscript_ (wpAny_Name (wpAny_loadName_local L.kind L.loc hns (v := v) ?_ (wpAny_Constant_int ?_)) L.dbg))
  · show List.lookup x [(x, v)].reverse = some v
    simp [List.lookup]
  · have ht' : IsTup h₁ t its := ht.keeps kp
    subst hv
    have h1 : 0 < its.size := by
      by_cases z : 0 < its.size
      · exact z
      · rw [Array.getElem?_eq_none (by omega)] at h0; cases h0
    have hn := line63
    exact subscriptTail_builtinR (x := w0) ht'.typeIs slot_tuple_getitem.lookup
      (PyProof.Rows.getItem_tuple (j := 0) ht' (by decide) (by decide) (by rw [seqIndex_of (by decide) (by omega)]; rfl) h0 ⟨rfl, fin h₁ _ kp⟩) rfl
def rSortL (K : Fg) (q : Str) (params : Arguments) (body : Expr) (scope : Scope) : List V → List V → Hp → VK → Prop := fun vs zs H Q => ∃ (a f c : Addr) (xs : List V) (ds : List PyData) (Z : V → PyData → Prop), vs = [.ref a] ∧ zs = [.ref f] ∧ H f = some (LamO f c q params body scope) ∧ H c = some (LamX.CodeO c q) ∧
  SqL K H a xs ∧ DpAll K H xs ds ∧ ZAll Z xs ds ∧ (∀ d ∈ ds, ∃ k r, d = .tuple (k :: r)) ∧ PySem.W.AllAlike (ds.map key0) ∧ PySem.W.Sortable (ds.map key0) ∧ (∀ d ∈ ds, (key0 d).depth ≤ 8) ∧ ∀ ys p, ZAll Z ys (sortK ds) → H p = none → Q (.ref p) (upd H p (.lst ys))
theorem zall_dp {K : Fg} {Z : V → PyData → Prop} : ∀ {vs : List V} {ds : List PyData}, ZAll Z vs ds → DpAll K H vs ds → ZAll (fun v d => Z v d ∧ Dp K H v d) vs ds
  | _, _, .nil, _ => .nil
  | _, _, .cons h t, .cons h' t' => .cons ⟨h, h'⟩ (zall_dp t t')
theorem zall_imp {Z Z' : V → PyData → Prop} (i : ∀ v d, Z v d → Z' v d) : ∀ {vs : List V} {ds : List PyData}, ZAll Z vs ds → ZAll Z' vs ds
  | _, _, .nil => .nil
  | _, _, .cons h t => .cons (i _ _ h) (zall_imp i t)
theorem cr_sortL {q x : Str} {params : Arguments} {body : Expr} {scope : Scope} (L : LamHead q params body scope x) (dp : X.A.depth < recursionLimit) (hu : X.A.units + 64 < cLine) : CallRK X (.builtin "sorted") [Str.ofString "key"] (rSortL X.K q params body scope) := by
  intro pins s σ H vs zs us ws Q I r rz h
  obtain ⟨a, f, c, xs, ds, Z, rfl, rfl, hf, hc, hs, hd, hz, tup, al, so, dep, fin⟩ := h
  obtain ⟨its, rv, hl, hsz⟩ := I.list hs
  rw [Vals.ref1 r, Vals.ref1 rz]
  have hlen := zall_len hz
  have e := zall_each rv (zall_dp (K := X.K) (H := H) hz hd)
  obtain ⟨⟨pm, ctv, of⟩, _, _⟩ := I.hok f _ hf
  obtain ⟨⟨oc, vs, t, h1, h2, h3⟩, _, _⟩ := I.hok c _ hc
  refine L3Key.sorted_old (bs := ds) key0 hl.isList e al so (by rw [← hlen]; exact hsz) (fun d hd => by have := dep d hd; show _ + 2 + (key0 d).depth < _; omega) (fun u d hR hx g tk kp => ?_) fun out cc g tk kp at_ eo => ?_
  · obtain ⟨v, rv, _, hdp⟩ := hR
    obtain ⟨k, rest, rfl⟩ := tup d hx
    obtain ⟨a1, ys, ev, ht, hall⟩ : ∃ a1 ys, v = .ref a1 ∧ SqT X.K H a1 ys ∧ DpAll X.K H ys (k :: rest) := by
      cases hdp with
      | tup ht hall => exact ⟨_, _, rfl, ht, hall⟩
    subst ev
    obtain ⟨its1, rv1, pl, hz1⟩ := I.tuple ht
    cases hall with
    | cons hk hr =>
      cases rv1 with
      | cons r0 r1 =>
        obtain ⟨as, rd⟩ := Dp.reads I k _ _ hk r0
        have alk : PySem.W.alike k k = true := al k (List.mem_map.mpr ⟨_, hx, rfl⟩) k (List.mem_map.mpr ⟨_, hx, rfl⟩)
        have ln := r1.length
        rw [List.length_cons] at hz1
        refine lam_run L (kp _ _ of) ⟨c, oc, vs, t, rfl, kp _ _ h1, h2, h3⟩ dp (I.nolimit.keeps kp) (show u = .ref a1 from rv) (pl.keeps kp) (w0 := _) (by rw [List.getElem?_toArray]; rfl) (by rw [List.size_toArray, List.length_cons]; omega) fun g2 tk2 kp2 => ?_
        exact ⟨g2, tk2, rfl, kp2, alk, as, PyProof.Rows.Reads.keeps (fun b o e => kp2 b o (kp b o e)) rd, L3Key.reads_at alk rd⟩
  · obtain ⟨ys, rv2, z2⟩ := each_zall (show PySem.W.EachIs _ out (sortK ds) from eo)
    have l2 : ys.length ≤ sizeLine := by
      rw [zall_len z2, (sortK_perm ds).length_eq, ← hlen]
      exact hsz
    exact ⟨.ref _, upd H (s.heap.objs.size + 1) (.lst ys), I.laid (t' := tk) kp (Nat.le_succ _) ⟨l2, out, cc, rv2, at_⟩, rfl, fin _ _ (zall_imp (fun _ _ z => z.1) z2) (I.hok.fresh (Nat.le_succ _))⟩
end
/-! ### the rule -/
/-- sorted(xs, key=lambda x: x[0]) in the def whose table stands at P -/
def wSortL (P : Addr) (q : Str) (we : WX) : WX := fun ρ μ Q => we ρ μ fun u μ1 => ∃ ds : List PyData, listU μ1 u = some (ds.map U.d) ∧ μ1 P = some (.tab q) ∧ (∀ d ∈ ds, ∃ k r, d = .tuple (k :: r)) ∧ PySem.W.AllAlike (ds.map key0) ∧ PySem.W.Sortable (ds.map key0) ∧ (∀ d ∈ ds, (key0 d).depth ≤ 8) ∧ Q (.d (.list (sortK ds))) μ1
section
variable {K : Fg} {te : TE} {we : WX} {P : Addr} {q : Str} {params : Arguments} {body : Expr} {scope : Scope}
theorem among_ext {H H' : Hp} {ps : Array Value} (e : Ext H H') (h : Among H q ps) : Among H' q ps := ⟨h.1, fun p cv z => let ⟨c, e1, e2⟩ := h.2 p cv z; ⟨c, e1, e _ _ e2⟩⟩
theorem re_sortL (h : RE K te we) : RE K (tCKw (rSortL K q params body scope) (tCons te tNil) (tCons (tLam P q params body scope) tNil)) (wSortL P q we) := fun F G H μ σ ρ Pd Q S w q' => h F G H μ σ ρ _ _ S w fun v u G1 H1 μ1 e1 S1 r1 ⟨ds, hl, hP, tup, al, so, dep, p⟩ => by
  obtain ⟨hg, ps, tb, tr, am⟩ := S1.mu _ _ hP
  have fin : ∀ (G2 H2 : Hp) (f c : Addr), Ext G1 G2 → St3 K F G2 H2 μ1 → G2 f = some (LamO f c q params body scope) → G2 c = some (LamX.CodeO c q) → rSortL K q params body scope [v] [.ref f] H2 Q := fun G2 H2 f c e2 S2 hf hc => by
    obtain ⟨a, xs, rfl, k1, k2⟩ := listU_ok S2 (r1.mono e2) hl
    have k3 : Rps K G2 xs ds := d_rus k2
    exact ⟨a, f, c, xs, ds, Rp K G2, rfl, rfl, S2.sub _ _ hf, S2.sub _ _ hc, k1, Rps.dp S2.sub k3, rps_zall k3, tup, al, so, dep, fun ys p' hz hp => by
      obtain ⟨e3, S3⟩ := S2.newG (o := .lst ys) hp
      exact q' (.ref p') (.d (.list _)) _ _ μ1 ((e1.trans e2).trans e3) S3 (Rp.lst (SqL.of upd_same) ((zall_rps hz).mono e3)) p⟩
  refine ⟨ps, tb, ⟨tr, fun pz cv z => ?_⟩, fun pz c f hc hf => ?_, fun c f ps' hc htr ham hf => ?_⟩
  · obtain ⟨c, e, z⟩ := am pz cv z
    exact ⟨c, e, S1.sub _ _ z⟩
  · obtain ⟨c', e, z⟩ := am pz _ hc
    cases e
    obtain ⟨e2, S2⟩ := S1.newG (o := LamO f c q params body scope) hf
    exact fin _ _ f c e2 S2 upd_same (e2 _ _ z)
  · have hPc : P ≠ c := ne_of_none tb hc
    obtain ⟨e2, S2⟩ := S1.newG (o := LamX.CodeO c q) hc
    have S3 := S2.write (o := .tbl ps') (m' := .tab q) hP ⟨ps', upd_same, htr, fun pz cv z => ?_⟩
    · rw [put_id hP] at S3
      have hf2 : upd (upd H1 c (LamX.CodeO c q)) P (.tbl ps') f = none := by
        rw [upd_ne (fun z => by rw [z, upd_ne hPc, tb] at hf; cases hf)]
        exact hf
      obtain ⟨e3, S4⟩ := S3.newG (o := LamO f c q params body scope) hf2
      exact fin _ _ f c (e2.trans e3) S4 upd_same (e3 _ _ upd_same)
    · rcases ham pz cv z with e | z
      · exact ⟨c, e, upd_same⟩
      · obtain ⟨c1, e4, e5⟩ := am pz cv z
        exact ⟨c1, e4, e2 _ _ e5⟩
end
section
variable {X : Cx} {pos p lpos kpos : Pos} {e : Expr} {te : TE} {we : WX} {P c : Addr} {q x : Str} {params : Arguments} {body : Expr} {scope : Scope}
/-- the def's code object is known, and its table -/
structure TabX (X : Cx) (P : Addr) : Prop where
  ex : ∃ c, LamX.TabB X.base X.mg c P ∧ X.env.code = .ref c
theorem w_sortL {j : Nat} (TX : TabX X P) (hr : Room j X.A) (hg : Gl X "sorted") (hm : X.mg "sorted" = none) (h : WE X e te we) (x : Str) (L : LamHead (X.env.qual ++ "<lambda>") params body scope x) (hnf : ∀ y ∈ scope.names, y.2 ≠ .free) (hcl : ∀ cells, cloFrom cells scope.names [] = []) (hdef : defaultsOf params X.env = ([], []) := by rfl)
    (he : backTo pos (starEach [e] X.env) = (false, eval e X.env) :: backTo pos (starEach [] X.env) := by rfl) (hpl : (backTo pos (starEach [e] X.env)).any (·.1) = false := by rfl)
    (hall : (backToKw pos (keywordEach [⟨some "key", .Lambda params body scope lpos, kpos⟩] X.env)).all (·.1.isSome) = true := by rfl) (hnone : (backToKw pos (keywordEach [⟨some "key", .Lambda params body scope lpos, kpos⟩] X.env)).any (·.1.isNone) = false := by rfl) (hks : (backToKw pos (keywordEach [⟨some "key", .Lambda params body scope lpos, kpos⟩] X.env)).filterMap (·.1) = [Str.ofString "key"] := by rfl)
    (hs : starEach [e] X.env = (false, eval e X.env) :: starEach [] X.env := by rfl) :
    WE X (.Call (.Name "sorted" p) [e] [⟨some "key", .Lambda params body scope lpos, kpos⟩] pos) (tCKw (rSortL X.K (X.env.qual ++ "<lambda>") params body scope) (tCons te tNil) (tCons (tLam P (X.env.qual ++ "<lambda>") params body scope) tNil)) (wSortL P (X.env.qual ++ "<lambda>") we) := by
  obtain ⟨c, TB, hc⟩ := TX.ex
  have dp : X.A.depth < recursionLimit := by have := hr.dp; omega
  have hu : X.A.units + 64 < cLine := by have := hr.un; omega
  exact ⟨pe_callBK (cr_sortL L dp hu) hg hm boot_sorted (pa_cons h.pe pa_nil hs) (pk_cons (pe_lam TB hc hnf hcl hdef) pk_nil) (by decide) (by decide) he hpl hall hnone hks, re_sortL h.re⟩
end
/-! ### a def whose code object and table are known -/
structure Dt (K : Fg) (mg : Str → Option Value) (base : Heap) (x : Str) (s : Stmt) (P : Addr) : Prop where
  ex : ∃ (f : Addr) (fd : FuncData), FunD K x x (defArgs s) (defBody s) (defScope s) [] [] f fd ∧ mg x = some (.ref f) ∧ ∃ c, LamX.TabB base mg c P ∧ fd.code = .ref c
section
variable {P : Program} {w : World} {K : Fg} {mg : Str → Option Value} {base : Heap}
theorem fn3FT {x : Str} {params : Arguments} {body : List Stmt} {scope : Scope} {f Pt : Addr} {fd : FuncData} {N ps : List Str} {k : Nat} {s : WF} (Fd : FunD K x x params body scope [] [] f fd) (tb : ∃ c, LamX.TabB base mg c Pt ∧ fd.code = .ref c) (S : FnScope N ps scope)
    (len : ∀ us μ Q, s us μ Q → us.length = ps.length)
    (hbody : ∀ (cdv : Value) (tb : ∃ c, LamX.TabB base mg c Pt ∧ cdv = .ref c) (A : Around) (outer : List Env) (sh : Shared) (H : Hp) (E : XK), Room k (A.deeper (envOfC x scope sh.heap.objs.size f cdv)) →
      ∃ t wt, WSs (cxOf CX0 P w K mg base N x scope f cdv A outer sh H E).nox body t wt ∧ ∀ us μ Q, s us μ Q → wt { nx := fun _ μ' => ∃ u2 μ2, Gv μ (.d .none) μ' u2 μ2 ∧ Q u2 μ2, rt := fun u μ' => ∃ u2 μ2, Gv μ u μ' u2 μ2 ∧ Q u2 μ2 } (start3 N us) μ) :
    FnOk P w K mg base C8.CX0 (k + 1) f fd ps (sp3 K s) := by
  obtain ⟨oc, od, dV, kV, doc, pm, an, cdv, ct, osl, rfl, lk, hcd, _, _⟩ := Fd.ex
  refine fn_of lk hcd S (fun vs H Q E h => ?_) fun A outer sh H vs Q E hr h => ?_
  · obtain ⟨us, F, G, μ, Pd, S0, r, hs, q⟩ := h
    rw [r.length]
    exact len _ _ _ hs
  · obtain ⟨us, F, G, μ, Pz, S3, r, hs, q⟩ := h
    obtain ⟨t, wt, hw, hq⟩ := hbody cdv tb A outer sh H E hr
    refine ⟨t, PSs.nox hw.ps, hw.rs F G H μ (L2.start N vs) (start3 N us) _ _ (start_sim S3 r) ⟨?_, ?_, ?_, ?_⟩ (hq us μ Pz hs)⟩
    · rintro σ' G' H' ρ' μ' e S' ⟨u2, μ2, g, p⟩
      obtain ⟨G2, e2, S2, r2⟩ := g.go (v := .non) S'.st Rp.non
      exact q .non u2 G2 H' μ2 (e.trans e2) S2 r2 p
    · rintro v u G' H' μ' e S' r' ⟨u2, μ2, g, p⟩
      obtain ⟨G2, e2, S2, r2⟩ := g.go S' r'
      exact q v u2 G2 H' μ2 (e.trans e2) S2 r2 p
    · exact fun _ _ _ _ _ _ _ h => h.elim
    · exact fun _ _ _ _ _ _ _ h => h.elim
end
end L3

/-! constants of a module, defaults, enumerate, zip, list(range(..)), sum, == of lists that may change -/
namespace L3
open PySem PySem.Spec PyProof.Rows L2
/-! ### constants -/
structure Cst (K : Fg) (mg : Str → Option Value) (x : Str) (v : V) (d : PyData) : Prop where
  ex : ∃ u, mg x = some u ∧ RelV v u
  rp : ∀ G, Rp K G v d
mutual
/-- the value reads as d, by what the head knows -/
def rdB (K : Fg) : Value → PyData → Bool
  | u, .none => (match u with
    | .none => true
    | _ => false)
  | u, .bool c => (match u with
    | .bool b => b == c
    | _ => false)
  | u, .int j => (match u with
    | .int i _ => decide (i = j)
    | _ => false)
  | u, .str y => (match u with
    | .str x _ => decide (x = y)
    | _ => false)
  | u, .tuple ds => (match u with
    | .ref a => (match K.lookup a with
      | some ⟨.type c, none, .seq its _, _⟩ => decide (c = "tuple") && (decide (its.size ≤ sizeLine) && rdsB K its.toList ds)
      | _ => false)
    | _ => false)
  | _, .list _ => false
  | _, .dict _ => false
def rdsB (K : Fg) : List Value → List PyData → Bool
  | us, [] => us.isEmpty
  | us, d :: ds => (match us with
    | u :: us => rdB K u d && rdsB K us ds
    | [] => false)
end
mutual
theorem rdB_ok {K : Fg} : ∀ {d : PyData} {u : Value}, rdB K u d = true → ∃ v, RelV v u ∧ ∀ G, Rp K G v d
  | .none, u, h => by
    cases u with
    | none => exact ⟨.non, rfl, fun _ => .non⟩
    | _ => simp [rdB] at h
  | .bool c, u, h => by
    cases u with
    | bool b =>
      have e : b = c := by simpa [rdB] using h
      subst e
      exact ⟨.bl b, rfl, fun _ => .bl b⟩
    | _ => simp [rdB] at h
  | .int c, u, h => by
    cases u with
    | int b t =>
      have e : b = c := by simpa [rdB] using h
      subst e
      exact ⟨.int b, ⟨t, rfl⟩, fun _ => .int b⟩
    | _ => simp [rdB] at h
  | .str c, u, h => by
    cases u with
    | str b t =>
      have e : b = c := by simpa [rdB] using h
      subst e
      exact ⟨.str b, ⟨t, rfl⟩, fun _ => .str b⟩
    | _ => simp [rdB] at h
  | .tuple ds, u, h => by
    cases u with
    | ref a =>
      have h' : (match K.lookup a with
        | some ⟨.type c, none, .seq its _, _⟩ => decide (c = "tuple") && (decide (its.size ≤ sizeLine) && rdsB K its.toList ds)
        | _ => false) = true := by simpa [rdB] using h
      cases q : K.lookup a with
      | none => rw [q] at h'; cases h'
      | some o =>
        rw [q] at h'
        obtain ⟨oc, od, dt, sl⟩ := o
        cases oc with
        | type c =>
          cases od with
          | some z => cases dt <;> cases h'
          | none =>
            cases dt with
            | seq its n =>
              obtain ⟨h1, h2⟩ := Bool.and_eq_true_iff.mp h'
              obtain ⟨h3, h4⟩ := Bool.and_eq_true_iff.mp h2
              obtain ⟨vs, r, rp⟩ := rdsB_ok h4
              refine ⟨.ref a, rfl, fun G => .tup (.inr ⟨_, its, n, q, ⟨?_, rfl⟩, rfl, of_decide_eq_true h3, r⟩) (rp G)⟩
              rw [of_decide_eq_true h1]
            | _ => cases h'
        | _ => cases h'
    | _ => simp [rdB] at h
  | .list _, u, h => by simp [rdB] at h
  | .dict _, u, h => by simp [rdB] at h
theorem rdsB_ok {K : Fg} : ∀ {ds : List PyData} {us : List Value}, rdsB K us ds = true → ∃ vs, Vals vs us ∧ ∀ G, Rps K G vs ds
  | [], us, h => by
    cases us with
    | nil => exact ⟨[], .nil, fun _ => .nil⟩
    | cons _ _ => simp [rdsB] at h
  | d :: ds, us, h => by
    cases us with
    | nil => simp [rdsB] at h
    | cons u us =>
      have h' : (rdB K u d && rdsB K us ds) = true := by simpa [rdsB] using h
      obtain ⟨h1, h2⟩ := Bool.and_eq_true_iff.mp h'
      obtain ⟨v, r, rp⟩ := rdB_ok h1
      obtain ⟨vs, rs, rps⟩ := rdsB_ok h2
      exact ⟨v :: vs, .cons r rs, fun G => .cons (rp G) (rps G)⟩
end
def cstB (K : Fg) (x : Str) (d : PyData) : Bool := match PySem.W.nsIn K mainGlobals x with
  | some (some u) => rdB K u d
  | _ => false
theorem cst_ok {K : Fg} {h : Heap} {mg : Str → Option Value} {x : Str} {d : PyData} (X : K.In h) (G : h.Ns mainGlobals mg) (c : cstB K x d = true) : ∃ v, Cst K mg x v d := by
  unfold cstB at c
  cases e : PySem.W.nsIn K mainGlobals x with
  | none => rw [e] at c; cases c
  | some o =>
    rw [e] at c
    cases o with
    | none => cases c
    | some u =>
      obtain ⟨v, r, rp⟩ := rdB_ok c
      exact ⟨v, ⟨u, PySem.W.mg_of X G e, r⟩, rp⟩
section
variable {K : Fg} {X : Cx} {pos p : Pos} {e : Expr} {es : List Expr} {te : TE} {we : WX} {t tk : TA} {w wk : WL} {x : Str} {s : WF} {k j : Nat}
theorem w_glo {v : V} {d : PyData} (c : Cst X.K X.mg x v d) (hg : Gl X x) (hd : (x == ("__debug__" : Str)) = false := by decide) : WE X (.Name x pos) (tC v) (wC d) := ⟨C8.pe_gc hg c.ex hd, re_c c.rp⟩
/-! ### defaults -/
theorem w_kcons' {nm : Str} {kpos : Pos} {kws : List Keyword} (h : WE X e te we) (k : WK X kws t w) (hs : keywordEach (⟨some nm, e, kpos⟩ :: kws) X.env = (some nm, eval e X.env) :: keywordEach kws X.env := by rfl) : WK X (⟨some nm, e, kpos⟩ :: kws) (tCons te t) (wCons we w) := w_kcons h k (pk_cons h.pe k.pk)
def wCallD (s : WF) (dus : List U) (w : WL) : WX := fun ρ μ P => w ρ μ fun us μ1 => s (us ++ dus) μ1 P
theorem w_callD {dvs : List V} {dus : List U} (c : C8.Cal X.prog X.w X.K X.mg X.base k x (sp3 X.K s) dvs) (hd : ∀ G, Rus X.K G dvs dus) (hr : Room j X.A) (hk : k ≤ j) (hg : Gl X x) (ha : WAr X (e :: es) t w)
    (hdb : (x == ("__debug__" : Str)) = false := by decide) (he : starEach (e :: es) X.env = (false, eval e X.env) :: starEach es X.env := by rfl) (hpl : (backTo pos (starEach es X.env)).any (·.1) = false := by rfl) :
    WE X (.Call (.Name x p) (e :: es) [] pos) (tCall (sp3 X.K s) dvs C8.E0 t) (wCallD s dus w) := ⟨C8.pe_c c hr hk hg ha.pa hdb he hpl, fun F G H μ σ ρ P Q S y q => ha.ra F G H μ σ ρ _ _ S y fun vs us G1 H1 μ1 e1 S1 r1 p =>
  ⟨us ++ dus, F, G1, μ1, P, S1, r1.append (hd G1), p, fun v u G2 H2 μ2 e2 S2 r2 p2 => q v u G2 H2 μ2 (e1.trans e2) S2 r2 p2⟩⟩
/-- .. called with its last places by keywords -/
structure CalN (P : Program) (w : World) (K : Fg) (mg : Str → Option Value) (base : Heap) (k : Nat) (x : Str) (sp : Sp) (n : Nat) (ks : List Str) : Prop where
  ex : ∃ (f : Addr) (fd : FuncData) (ps : List Str) (g : List Value → List Value → List Value), FnOk P w K mg base C8.CX0 k f fd ps sp ∧ mg x = some (.ref f) ∧ PySem.W.keepIn K (.ref f) = true ∧ KBn K fd ps n ks g (fun vs zs => vs ++ zs)
def wCallN (s : WF) (n m : Nat) (w wk : WL) : WX := fun ρ μ P => w ρ μ fun us μ1 => wk ρ μ1 fun ks μ2 => us.length = n ∧ ks.length = m ∧ s (us ++ ks) μ2 P
theorem w_callN {n m : Nat} {ks : List Str} {kws : List Keyword} (c : CalN X.prog X.w X.K X.mg X.base k x (sp3 X.K s) n ks) (hr : Room j X.A) (hk : k ≤ j) (hg : Gl X x) (ha : WAr X (e :: es) t w) (hkw : WK X kws tk wk) (hall : (backToKw pos (keywordEach kws X.env)).all (·.1.isSome) = true := by rfl) (hks : (backToKw pos (keywordEach kws X.env)).filterMap (·.1) = ks := by rfl)
    (hdb : (x == ("__debug__" : Str)) = false := by decide) (he : starEach (e :: es) X.env = (false, eval e X.env) :: starEach es X.env := by rfl)
    (hpl : ((backTo pos (starEach (e :: es) X.env)).any (·.1) || (backToKw pos (keywordEach kws X.env)).any (·.1.isNone)) = false := by rfl) (hml : ks.length = m := by rfl) : WE X (.Call (.Name x p) (e :: es) kws pos) (tCallN n ks.length (sp3 X.K s) (fun vs zs => vs ++ zs) C8.E0 t tk) (wCallN s n m w wk) := by
  obtain ⟨f, fd, ps, g, F, hm, kp, b⟩ := c.ex
  subst hml
  refine ⟨pe_callN F (E := C8.E0) (hr.mono hk) hg hm kp b C8.pass0 ha.pa hkw.pk hall hks hdb he hpl, fun F G H μ σ ρ P Q S y q => ha.ra F G H μ σ ρ _ _ S y fun vs us G1 H1 μ1 e1 S1 r1 p => hkw.ra F G1 H1 μ1 σ ρ _ _ (S.mono e1 S1) p fun zs ws G2 H2 μ2 e2 S2 r2 ⟨l1, l2, p2⟩ => ?_⟩
  exact ⟨by rw [r1.length]; exact l1, by rw [r2.length]; exact l2, us ++ ws, F, G2, μ2, P, S2, (r1.mono e2).append r2, p2, fun v u G3 H3 μ3 e3 S3 r3 p3 => q v u G3 H3 μ3 ((e1.trans e2).trans e3) S3 r3 p3⟩
/-! ### list(range(n)), sum -/
def wListRg (w : WX) : WX := fun ρ μ P => w ρ μ fun u μ1 => ∃ n : Int, u = .d (.int n) ∧ RgOk 0 n ∧ P (.d (.list ((List.range n.toNat).map fun i : Nat => .int (i : Int)))) μ1
theorem rg_rps {G : Hp} {n : Int} : Rps K G (rgV 0 n) ((List.range n.toNat).map fun i : Nat => PyData.int (i : Int)) := by
  have e : rgV 0 n = ((List.range n.toNat).map fun i : Nat => (i : Int)).map V.int := by
    unfold rgV
    rw [List.map_map, Int.sub_zero]
    exact List.map_congr_left fun i _ => by simp
  have e2 : (List.range n.toNat).map (fun i : Nat => PyData.int (i : Int)) = ((List.range n.toNat).map fun i : Nat => (i : Int)).map PyData.int := by rw [List.map_map]; rfl
  rw [e, e2]
  exact rps_ints' _
theorem w_listRg {p2 : Pos} (hc : X.calm = true) (hg : Gl X "list") (hm : X.mg "list" = none) (hg2 : Gl X "range") (hm2 : X.mg "range" = none) (h : WE X e te we) (na : starEach [.Call (.Name "range" p2) [e] [] pos] X.env = (false, eval (.Call (.Name "range" p2) [e] [] pos) X.env) :: starEach [] X.env := by rfl) (na2 : starEach [e] X.env = (false, eval e X.env) :: starEach [] X.env := by rfl) {pos2 : Pos} :
    WE X (.Call (.Name "list" p) [.Call (.Name "range" p2) [e] [] pos] [] pos2) (tLstRg (tRg1 te)) (wListRg we) := ⟨pe_listRg hc hg hm (prg_1 hg2 hm2 h.pe na2) na, fun F G H μ σ ρ P Q S y q => h.re F G H μ σ ρ _ _ S y fun v u G1 H1 μ1 e1 S1 r1 ⟨n, e, ok, p⟩ => by
  subst e
  refine ⟨n, rp_int r1, ok, fun a ha => ?_⟩
  obtain ⟨e2, S2⟩ := S1.newG (o := .lst (rgV 0 n)) ha
  exact q (.ref a) (.d (.list _)) _ _ μ1 (e1.trans e2) S2 (Rp.lst (SqL.of upd_same) rg_rps) p⟩
def qSum : WQ := fun us μ P => ∃ (u : U) (ns : List Int), us = [u] ∧ listU μ u = some (ns.map fun z => U.d (.int z)) ∧ P (.d (.int ns.sum)) μ
theorem rq_sum : RQ K (rSum K) qSum := fun F G H μ vs us P Q S r ⟨u, ns, e, hl, p⟩ q => by
  subst e
  obtain ⟨v, rfl, q1⟩ := rus1 r
  obtain ⟨a, xs, rfl, h1, h2⟩ := listU_ok S q1 hl
  rw [rus_map_int h2] at h1
  exact ⟨a, ns, rfl, h1, q _ (.d (.int _)) G H μ (Ext.refl G) S (Rp.int _) p⟩
def w_sum (hc : X.calm = true) (hg : Gl X "sum") (hm : X.mg "sum" = none) (ha : WAr X (e :: es) t w) (he : starEach (e :: es) X.env = (false, eval e X.env) :: starEach es X.env := by rfl) (hpl : (backTo pos (starEach es X.env)).any (·.1) = false := by rfl) := show WE X (.Call (.Name "sum" p) (e :: es) [] pos) _ (wQ qSum w) from w_qb (cr_sum hc) rq_sum hg hm boot_sum ha (by decide) (by decide) he hpl
end
/-! ### enumerate, zip -/
def enumD (ds : List PyData) : List PyData := ds.zipIdx.map fun q => .tuple [.int (q.2 : Int), q.1]
def zipD (ds es : List PyData) : List PyData := (ds.zip es).map fun q => .tuple [q.1, q.2]
/-! ### == of lists that may change -/
def DU (μ : Mu) (u : U) (d : PyData) : Prop := u = .d d ∨ ∃ a ds, u = .r a ∧ μ a = some (.lst (ds.map U.d)) ∧ d = .list ds
theorem du_dp {K : Fg} {F G H : Hp} {μ : Mu} {v : V} {u : U} {d : PyData} (S : St3 K F G H μ) (r : Ru K G v u) (h : DU μ u d) : Dp K H v d := by
  rcases h with e | ⟨a, ds, e, hm, ed⟩
  · subst e
    exact Rp.dp S.sub r
  · subst e ed
    obtain ⟨vs, h1, h2⟩ := S.lst hm
    rw [show v = .ref a from r]
    exact .lst (SqL.of h1) (Rps.dp S.sub (d_rus h2))
def sEqM (f : Bool → Bool) : WR := fun u w μ P => ∃ a b, DU μ u a ∧ DU μ w b ∧ SeqAt.shaped a = true ∧ SeqAt.shaped b = true ∧ P (.d (.bool (f (PyData.eqv a b)))) μ
section
variable {K : Fg} {X : Cx} {pos : Pos} {a b : Expr} {ta tb : TE} {wa wb : WX}
theorem ro_eqM : RO K (rEqD K) (sEqM id) := fun F G H μ x y u w P Q S rx ry ⟨a, b, e1, e2, s1, s2, p⟩ q =>
  ⟨a, b, du_dp S rx e1, du_dp S ry e2, s1, s2, q (.bl _) (.d (.bool _)) G H μ (Ext.refl G) S (Rp.bl _) p⟩
theorem ro_neM : RO K (rNeD K) (sEqM not) := fun F G H μ x y u w P Q S rx ry ⟨a, b, e1, e2, s1, s2, p⟩ q =>
  ⟨a, b, du_dp S rx e1, du_dp S ry e2, s1, s2, q (.bl _) (.d (.bool _)) G H μ (Ext.refl G) S (Rp.bl _) p⟩
theorem w_eqM (hu : X.A.units + 64 < cLine) (ha : WE X a ta wa) (hb : WE X b tb wb) : WCp X (.Compare a [.Eq] [b] pos) (tOp (rEqD X.K) ta tb) (wOp (sEqM id) wa wb) := w_cmpC (op_eqD hu) ro_eqM ha hb (nomark _)
theorem w_neM (hu : X.A.units + 64 < cLine) (ha : WE X a ta wa) (hb : WE X b tb wb) : WCp X (.Compare a [.NotEq] [b] pos) (tOp (rNeD X.K) ta tb) (wOp (sEqM not) wa wb) := w_cmpC (op_neD hu) ro_neM ha hb (nomark _)
end
/-! ### a def with defaults -/
structure Dd (K : Fg) (mg : Str → Option Value) (x : Str) (s : Stmt) (dvs : List V) : Prop where
  ex : ∃ (f : Addr) (fd : FuncData), FunD K x x (defArgs s) (defBody s) (defScope s) dvs [] f fd ∧ mg x = some (.ref f)
section
variable {P : Program} {w : World} {K : Fg} {mg : Str → Option Value} {base : Heap}
theorem fn3D {x : Str} {params : Arguments} {body : List Stmt} {scope : Scope} {dvs : List V} {kws : List (Str × V)} {f : Addr} {fd : FuncData} {N ps : List Str} {k : Nat} {s : WF} (Fd : FunD K x x params body scope dvs kws f fd) (S : FnScope N ps scope)
    (len : ∀ us μ Q, s us μ Q → us.length = ps.length)
    (hbody : ∀ (cdv : Value) (A : Around) (outer : List Env) (sh : Shared) (H : Hp) (E : XK), Room k (A.deeper (envOfC x scope sh.heap.objs.size f cdv)) →
      ∃ t wt, WSs (cxOf CX0 P w K mg base N x scope f cdv A outer sh H E).nox body t wt ∧ ∀ us μ Q, s us μ Q → wt (E3 μ Q) (start3 N us) μ) :
    FnOk P w K mg base C8.CX0 (k + 1) f fd ps (sp3 K s) := by
  refine FunD.ok Fd S (fun vs H Q E h => ?_) (fun cdv A outer sh H vs Q E hr h => ?_)
  · obtain ⟨us, F, G, μ, Pd, S0, r, hs, q⟩ := h
    rw [r.length]
    exact len _ _ _ hs
  · obtain ⟨us, F, G, μ, Pz, S3, r, hs, q⟩ := h
    obtain ⟨t, wt, hw, hq⟩ := hbody cdv A outer sh H E hr
    refine ⟨t, PSs.nox hw.ps, hw.rs F G H μ (L2.start N vs) (start3 N us) _ _ (start_sim S3 r) ⟨?_, ?_, ?_, ?_⟩ (hq us μ Pz hs)⟩
    · rintro σ' G' H' ρ' μ' e S' ⟨u2, μ2, g, p⟩
      obtain ⟨G2, e2, S2, r2⟩ := g.go (v := .non) S'.st Rp.non
      exact q .non u2 G2 H' μ2 (e.trans e2) S2 r2 p
    · rintro v u G' H' μ' e S' r' ⟨u2, μ2, g, p⟩
      obtain ⟨G2, e2, S2, r2⟩ := g.go S' r'
      exact q v u2 G2 H' μ2 (e.trans e2) S2 r2 p
    · exact fun _ _ _ _ _ _ _ h => h.elim
    · exact fun _ _ _ _ _ _ _ h => h.elim
end
end L3

/-! list(zip(a, b)): the pairs are kept -/
namespace PySem
open Sem (wp)
section
variable {prog : Program} {w : World} {A : Around} {E : Value → Shared → Prop} {s : Shared} {z TI TO i1 i2 : Addr} {fp1 fp2 : List Addr} {n1 n2 i : Nat} {P1 P2 : Nat → Value → Prop} {St1 St2 : Nat → Heap → Prop}
theorem zipH_item {T : Addr} {f : Bool} {oT : Obj} {Q : Value → Shared → Prop} (S : ZipSep2 z TI TO i1 i2 fp1 fp2) (D1 : Draws prog w A i1 fp1 n1 P1 St1) (D2 : Draws prog w A i2 fp2 n2 P2 St2)
    (hz : IsZipHeld s.heap z TI TO T f) (hT : s.heap.get? T = some oT) (hTI : IsTupOf2 s.heap TI (.ref i1) (.ref i2)) (st1 : St1 i s.heap) (st2 : St2 i s.heap) (hlt1 : i < n1) (hlt2 : i < n2)
    (hQ : ∀ x1 x2 h' tk, P1 i x1 → P2 i x2 → IsZipHeld h' z TI TO T true → St1 (i + 1) h' → St2 (i + 1) h' → IsTupOf2 h' s.heap.objs.size x1 x2 → h'.objs.size = s.heap.objs.size + 1 →
      (∀ c o, c ≠ z → c ≠ i1 → c ≠ i2 → s.heap.get? c = some o → h'.get? c = some o) → Q (.ref s.heap.objs.size) { s with heap := h', toks := tk }) :
    wpAny (model prog w) A (Builtin.«zip.__next__» ⟨[.ref z], []⟩) (fun fin s' => ∃ v, fin = .done (.ret v) ∧ Q v s') E s := by
  obtain ⟨hp, g, d, tk0, os⟩ := s
  show wpAny _ _ (field (.ref z) 2 >>= _) _ _ _
  refine wpAny_bind (wpAny_field hz rfl (x := .bool false) rfl ?_)
  show wpAny _ _ (field (.ref z) 3 >>= _) _ _ _
  refine wpAny_bind (wpAny_field hz rfl (x := .ref TI) rfl ?_)
  refine wpAny_bind (wpAny_seqItems hTI rfl ?_)
  show wpAny _ _ (Builtin.SmallTypes.ownedTupleIsFree (.ref z) >>= _) _ _ _
  refine wpAny_bind (wpAny_tupleHeld_zip hz hT fun h₁ hz₁ hs₁ => ?_)
  replace hs₁ : Heap.SameBut z hp h₁ := hs₁
  simp only [Bool.false_eq_true, if_false]
  refine wpAny_bind ?_
  rw [← Array.forIn_toList]
  simp only [List.forIn_cons, List.forIn_nil]
  refine wpAny_bind (wpAny_bind (wpAny_holding ?_))
  show wpAny _ _ (Builtin.SmallTypes.nextOf (.ref i1) >>= _) _ _ ⟨h₁, g, d, tk0, os⟩
  refine wpAny_bind (D1.item i ⟨h₁, g, d, tk0, os⟩ _ _ hlt1 (D1.over st1 hs₁ S.zf1) fun x1 h₂ tk1 hx1 sn1 hs₂ => wpAny_pure ?_)
  replace hs₂ : Heap.SameBut i1 h₁ h₂ := hs₂
  refine wpAny_pure ?_
  refine wpAny_bind (wpAny_bind (wpAny_holding ?_))
  show wpAny _ _ (Builtin.SmallTypes.nextOf (.ref i2) >>= _) _ _ ⟨h₂, g, d, tk1, os⟩
  refine wpAny_bind (D2.item i ⟨h₂, g, d, tk1, os⟩ _ _ hlt2 (D2.over (D2.over st2 hs₁ S.zf2) hs₂ S.sep1_2) fun x2 h₃ tk2 hx2 sn2 hs₃ => wpAny_pure ?_)
  replace hs₃ : Heap.SameBut i2 h₂ h₃ := hs₃
  refine wpAny_pure (wpAny_pure ?_)
  show wpAny _ _ (newTuple [x1, x2] >>= _) _ _ ⟨h₃, g, d, tk2, os⟩
  refine wpAny_bind (wpAny_newTuple ?_)
  have hsz : h₃.objs.size = hp.objs.size := by rw [hs₃.1, hs₂.1, hs₁.1]
  have hz₃ : IsZipHeld h₃ z TI TO T true := hs₃.extBut _ _ S.zi2 (hs₂.extBut _ _ S.zi1 hz₁)
  have hk : ∀ c o, c ≠ z → c ≠ i1 → c ≠ i2 → hp.get? c = some o → h₃.get? c = some o := fun c o c1 c2 c3 e => hs₃.extBut _ _ c3 (hs₂.extBut _ _ c2 (hs₁.extBut _ _ c1 e))
  have q1 : St1 (i + 1) h₃ := D1.over sn1 hs₃ S.sep2_1
  refine wpAny_pure ⟨_, rfl, ?_⟩
  show Q (.ref h₃.objs.size) _
  have hp' : IsTupOf2 (h₃.push { cls := .type "tuple", data := .seq #[x1, x2] }) h₃.objs.size x1 x2 := Heap.get?_push_size _ rfl
  have hz4 : (h₃.push { cls := .type "tuple", data := .seq #[x1, x2] }).objs.size = h₃.objs.size + 1 := Heap.size_push ..
  rw [hsz] at hp' hz4 ⊢
  exact hQ x1 x2 _ tk2 hx1 hx2 (Heap.get?_push_of_some _ hz₃) (D1.frame _ _ _ q1 fun b _ o e => Heap.get?_push_of_some _ e) (D2.frame _ _ _ sn2 fun b _ o e => Heap.get?_push_of_some _ e) hp' hz4 fun c o c1 c2 c3 e => Heap.get?_push_of_some _ (hk c o c1 c2 c3 e)
theorem zipH_end {T : Addr} {f : Bool} {oT : Obj} {Q : Fin → Shared → Prop} (S : ZipSep2 z TI TO i1 i2 fp1 fp2) (D1 : Draws prog w A i1 fp1 n1 P1 St1) (D2 : Draws prog w A i2 fp2 n2 P2 St2)
    (hz : IsZipHeld s.heap z TI TO T f) (hT : s.heap.get? T = some oT) (hTI : IsTupOf2 s.heap TI (.ref i1) (.ref i2)) (st1 : St1 i s.heap) (st2 : St2 i s.heap) (hle1 : i ≤ n1) (hle2 : i ≤ n2) (hend : i = n1 ∨ i = n2)
    (hE : ∀ h' tk e, (∀ c o, c ≠ z → c ≠ i1 → c ≠ i2 → s.heap.get? c = some o → h'.get? c = some o) → (∃ o, h'.get? e = some o ∧ o.cls = .type "StopIteration") → E (.ref e) { s with heap := h', toks := tk }) :
    wpAny (model prog w) A (Builtin.«zip.__next__» ⟨[.ref z], []⟩) Q E s := by
  obtain ⟨hp, g, d, tk0, os⟩ := s
  show wpAny _ _ (field (.ref z) 2 >>= _) _ _ _
  refine wpAny_bind (wpAny_field hz rfl (x := .bool false) rfl ?_)
  show wpAny _ _ (field (.ref z) 3 >>= _) _ _ _
  refine wpAny_bind (wpAny_field hz rfl (x := .ref TI) rfl ?_)
  refine wpAny_bind (wpAny_seqItems hTI rfl ?_)
  show wpAny _ _ (Builtin.SmallTypes.ownedTupleIsFree (.ref z) >>= _) _ _ _
  refine wpAny_bind (wpAny_tupleHeld_zip hz hT fun h₁ hz₁ hs₁ => ?_)
  replace hs₁ : Heap.SameBut z hp h₁ := hs₁
  simp only [Bool.false_eq_true, if_false]
  refine wpAny_bind ?_
  rw [← Array.forIn_toList]
  simp only [List.forIn_cons, List.forIn_nil]
  refine wpAny_bind (wpAny_bind (wpAny_holding ?_))
  show wpAny _ _ (Builtin.SmallTypes.nextOf (.ref i1) >>= _) _ _ ⟨h₁, g, d, tk0, os⟩
  by_cases hlt1 : i < n1
  · have hi2 : i = n2 := by omega
    refine wpAny_bind (D1.item i ⟨h₁, g, d, tk0, os⟩ _ _ hlt1 (D1.over st1 hs₁ S.zf1) fun x1 h₂ tk1 hx1 sn1 hs₂ => wpAny_pure ?_)
    replace hs₂ : Heap.SameBut i1 h₁ h₂ := hs₂
    refine wpAny_pure ?_
    refine wpAny_bind (wpAny_bind (wpAny_holding ?_))
    show wpAny _ _ (Builtin.SmallTypes.nextOf (.ref i2) >>= _) _ _ ⟨h₂, g, d, tk1, os⟩
    refine wpAny_bind (D2.done ⟨h₂, g, d, tk1, os⟩ _ _ (by rw [← hi2]; exact D2.over (D2.over st2 hs₁ S.zf2) hs₂ S.sep1_2) fun q e hq he => ?_)
    exact hE q tk1 e (fun c o c1 c2 c3 x => hq _ _ c3 (hs₂.extBut _ _ c2 (hs₁.extBut _ _ c1 x))) he
  · have hi1 : i = n1 := by omega
    refine wpAny_bind (D1.done ⟨h₁, g, d, tk0, os⟩ _ _ (by rw [← hi1]; exact D1.over st1 hs₁ S.zf1) fun q e hq he => ?_)
    exact hE q tk0 e (fun c o c1 c2 c3 x => hq _ _ c2 (hs₁.extBut _ _ c1 x)) he
theorem nextH_item {T : Addr} {f : Bool} {oT : Obj} {Q : Option Value → Shared → Prop} (S : ZipSep2 z TI TO i1 i2 fp1 fp2) (D1 : Draws prog w A.in1 i1 fp1 n1 P1 St1) (D2 : Draws prog w A.in1 i2 fp2 n2 P2 St2)
    (hz : IsZipHeld s.heap z TI TO T f) (hT : s.heap.get? T = some oT) (hTI : IsTupOf2 s.heap TI (.ref i1) (.ref i2)) (st1 : St1 i s.heap) (st2 : St2 i s.heap) (hlt1 : i < n1) (hlt2 : i < n2)
    (hQ : ∀ x1 x2 h' tk, P1 i x1 → P2 i x2 → IsZipHeld h' z TI TO T true → St1 (i + 1) h' → St2 (i + 1) h' → IsTupOf2 h' s.heap.objs.size x1 x2 → h'.objs.size = s.heap.objs.size + 1 →
      (∀ c o, c ≠ z → c ≠ i1 → c ≠ i2 → s.heap.get? c = some o → h'.get? c = some o) → Q (some (.ref s.heap.objs.size)) { s with heap := h', toks := tk }) :
    wpAny (model prog w) A (pyNext (.ref z)) Q E s := by
  have hTy : s.TypeIs (.ref z) "zip" := ⟨_, hz, rfl⟩
  unfold pyNext
  exact wpAny_bind (wpAny_attempt (wpAny_callSpecial?_slot (name := Str.ofString "__next__") hTy F.slot_zip_next
    (wpAny_call_entry F.slot_zip_next hTy F.entry_zip_next
      (zipH_item S D1 D2 hz hT hTI st1 st2 hlt1 hlt2 fun x1 x2 h' tk a0 a1 a2 a3 a4 a5 a6 a7 => wpAny_pure (hQ x1 x2 h' tk a0 a1 a2 a3 a4 a5 a6 a7)) (F.args_zip_next_1 _))))
theorem nextH_end {T : Addr} {f : Bool} {oT : Obj} {Q : Option Value → Shared → Prop} (S : ZipSep2 z TI TO i1 i2 fp1 fp2) (D1 : Draws prog w A.in1 i1 fp1 n1 P1 St1) (D2 : Draws prog w A.in1 i2 fp2 n2 P2 St2)
    (hz : IsZipHeld s.heap z TI TO T f) (hT : s.heap.get? T = some oT) (hTI : IsTupOf2 s.heap TI (.ref i1) (.ref i2)) (st1 : St1 i s.heap) (st2 : St2 i s.heap) (hle1 : i ≤ n1) (hle2 : i ≤ n2) (hend : i = n1 ∨ i = n2)
    (hQ : ∀ h' tk, (∀ c o, c ≠ z → c ≠ i1 → c ≠ i2 → s.heap.get? c = some o → h'.get? c = some o) → Q none { s with heap := h', toks := tk }) : wpAny (model prog w) A (pyNext (.ref z)) Q E s := by
  have hTy : s.TypeIs (.ref z) "zip" := ⟨_, hz, rfl⟩
  unfold pyNext
  refine wpAny_bind (wpAny_attempt (wpAny_callSpecial?_slot (name := Str.ofString "__next__") hTy F.slot_zip_next
    (wpAny_call_entry F.slot_zip_next hTy F.entry_zip_next (zipH_end S D1 D2 hz hT hTI st1 st2 hle1 hle2 hend fun h' tk e hk he => ?_) (F.args_zip_next_1 _))))
  obtain ⟨o, ho, hc⟩ := he
  refine wpAny_bind (wpAny_isInstance (T := "StopIteration") (b := true) ⟨o, ho, hc⟩ isSubtype_stop ?_)
  exact wpAny_pure (hQ _ _ hk)
theorem zip_no_len : typeLookup (.type "zip") "__len__" = pure none := am_miss_of_fast (by decide +kernel)
theorem zip_no_hint : typeLookup (.type "zip") "__length_hint__" = pure none := am_miss_of_fast (by decide +kernel)
structure ZAt (z TI TO i1 i2 S : Addr) (St1 St2 : Nat → Heap → Prop) (i : Nat) (h : Heap) : Prop where
  ti : IsTupOf2 h TI (.ref i1) (.ref i2)
  s1 : St1 i h
  s2 : St2 i h
  zz : (IsZip h z TI TO .none ∧ ∃ a b, IsTupOf2 h TO a b) ∨ ∃ T f oT, IsZipHeld h z TI TO T f ∧ h.get? T = some oT ∧ T ≠ z ∧ T ≠ i1 ∧ T ≠ i2 ∧ T ≠ S
structure ZAcc (P1 P2 : Nat → Value → Prop) (N : Nat) (h : Heap) (ts : List Addr) : Prop where
  asc : ts.Pairwise (· < ·)
  lo : ∀ t ∈ ts, N ≤ t
  pr : ∀ j t, ts[j]? = some t → ∃ x y, P1 j x ∧ P2 j y ∧ IsTupOf2 h t x y
theorem ZAt.type {S : Addr} (x : ZAt z TI TO i1 i2 S St1 St2 i s.heap) : s.TypeIs (.ref z) "zip" := by
  rcases x.zz with ⟨hz, _⟩ | ⟨T, f, oT, hz, _⟩ <;> exact ⟨_, hz, rfl⟩
theorem ZAt.frame {S : Addr} {h h' : Heap} (x : ZAt z TI TO i1 i2 S St1 St2 i h) (D1 : Draws prog w A i1 fp1 n1 P1 St1) (D2 : Draws prog w A i2 fp2 n2 P2 St2) (f1 : S ∉ fp1) (f2 : S ∉ fp2) (fz : z ≠ S) (ft : TI ≠ S) (fo : TO ≠ S)
    (k : ∀ b o, b ≠ S → h.get? b = some o → h'.get? b = some o) : ZAt z TI TO i1 i2 S St1 St2 i h' := ⟨k _ _ ft x.ti, D1.frame _ _ _ x.s1 fun b hb o e => k b o (fun q => f1 (q ▸ hb)) e, D2.frame _ _ _ x.s2 fun b hb o e => k b o (fun q => f2 (q ▸ hb)) e, by
  rcases x.zz with ⟨hz, a, b, ho⟩ | ⟨T, f, oT, hz, hT, r1, r2, r3, r4⟩
  · exact .inl ⟨k _ _ fz hz, a, b, k _ _ fo ho⟩
  · exact .inr ⟨T, f, oT, k _ _ fz hz, k _ _ r4 hT, r1, r2, r3, r4⟩⟩
theorem ZAcc.keep {N : Nat} {h h' : Heap} {ts : List Addr} (x : ZAcc P1 P2 N h ts) (k : ∀ b o, N ≤ b → h.get? b = some o → h'.get? b = some o) : ZAcc P1 P2 N h' ts :=
  ⟨x.asc, x.lo, fun j t hj => let ⟨a, b, p1, p2, q⟩ := x.pr j t hj; ⟨a, b, p1, p2, k _ _ (x.lo t (List.mem_of_getElem? hj)) q⟩⟩
theorem ZAcc.push {N : Nat} {h h' : Heap} {ts : List Addr} {x y : Value} (Z : ZAcc P1 P2 N h ts) (hN : N ≤ h.objs.size) (k : ∀ b o, N ≤ b → h.get? b = some o → h'.get? b = some o) (p1 : P1 ts.length x) (p2 : P2 ts.length y) (q : IsTupOf2 h' h.objs.size x y) : ZAcc P1 P2 N h' (ts ++ [h.objs.size]) := by
  have Z' := Z.keep k
  refine ⟨List.pairwise_append.mpr ⟨Z.asc, List.pairwise_singleton _ _, fun a ha b hb => ?_⟩, fun t ht => ?_, fun j t hj => ?_⟩
  · rw [List.mem_singleton.mp hb]
    obtain ⟨j, hj⟩ := List.mem_iff_getElem?.mp ha
    obtain ⟨_, _, _, _, q⟩ := Z.pr j a hj
    exact Heap.lt_size q
  · rcases List.mem_append.mp ht with ht | ht
    · exact Z'.lo t ht
    · rw [List.mem_singleton.mp ht]; exact hN
  · rcases Nat.lt_trichotomy j ts.length with l | l | l
    · rw [List.getElem?_append_left l] at hj
      exact Z'.pr j t hj
    · subst l
      rw [List.getElem?_concat_length] at hj
      cases hj
      exact ⟨x, y, p1, p2, q⟩
    · rw [List.getElem?_eq_none (by rw [List.length_append]; simp; omega)] at hj
      cases hj
def IsLst (h : Heap) (S : Addr) (ts : List Addr) : Prop := ∃ c, h.get? S = some { cls := .type "list", dict := none, data := .seq (ts.map Value.ref).toArray c, slots := #[] }
theorem loopZ {S : Addr} {N : Nat} {res : Value} {R : Result → Shared → Prop} (S2 : ZipSep2 z TI TO i1 i2 fp1 fp2) (D1 : Draws prog w A.in1.in1 i1 fp1 n1 P1 St1) (D2 : Draws prog w A.in1.in1 i2 fp2 n2 P2 St2) (f1 : S ∉ fp1) (f2 : S ∉ fp2) (fz : z ≠ S) (ft : TI ≠ S) (fo : TO ≠ S)
    (bz : z < N) (bo : TO < N) (b1 : i1 < N) (b2 : i2 < N) (bS : S < N) (hn : min n1 n2 ≤ sizeLine) :
    ∀ (k i : Nat) (s : Shared) (ts : List Addr), min n1 n2 - i = k → i ≤ min n1 n2 → ZAt z TI TO i1 i2 S St1 St2 i s.heap → ZAcc P1 P2 N s.heap ts → ts.length = i → N ≤ s.heap.objs.size → IsLst s.heap S ts →
      (∀ h' tk ts', (∀ b o, b ≠ z → b ≠ TO → b ≠ i1 → b ≠ i2 → b ≠ S → s.heap.get? b = some o → h'.get? b = some o) → ZAcc P1 P2 N h' ts' → ts'.length = min n1 n2 → IsLst h' S ts' → R (.ok (.ret res)) { s with heap := h', toks := tk }) →
      codeAny (model prog w) A (.builtin "list.extend.loop" ⟨[.ref S, .ref z, res], []⟩) R s := by
  intro k
  have ne : ∀ {x b : Addr}, x < N → N ≤ b → b ≠ x := fun h1 h2 => Nat.ne_of_gt (Nat.lt_of_lt_of_le h1 h2)
  have i1S : S ≠ i1 := fun e => f1 (e ▸ S2.mem1)
  have i2S : S ≠ i2 := fun e => f2 (e ▸ S2.mem2)
  induction k with
  | zero =>
    intro i s ts hk hi Z Y lt hN hS hR
    have hin : i = min n1 n2 := by omega
    refine codeAny_builtin F.entry_extend_loop ?_
    rw [Around.under_plainId F.plain_extend_loop _]
    show wpAny _ A.in1 (pyNext (.ref z) >>= _) _ _ s
    have hend : i = n1 ∨ i = n2 := by omega
    have e : ∀ (h' : Heap) (tk : Tok), (∀ c o, c ≠ z → c ≠ TO → c ≠ i1 → c ≠ i2 → s.heap.get? c = some o → h'.get? c = some o) → R (.ok (.ret res)) { s with heap := h', toks := tk } := fun h' tk kp =>
      hR h' tk ts (fun b o c1 c2 c3 c4 _ e => kp b o c1 c2 c3 c4 e) (Y.keep fun b o hb e => kp b o (ne bz hb) (ne bo hb) (ne b1 hb) (ne b2 hb) e) (by omega) (let ⟨c, q⟩ := hS; ⟨c, kp _ _ fz.symm fo.symm i1S i2S q⟩)
    rcases Z.zz with ⟨hz, a, b, ho⟩ | ⟨T, f, oT, hz, hT, r1, r2, r3, r4⟩
    · refine wpAny_bind (wpAny_pyNext_zipD2_end S2 D1 D2 hz Z.ti ho Z.s1 Z.s2 (by omega) (by omega) hend fun h' tk kp => ?_)
      exact wpAny_pure (e h' tk kp)
    · refine wpAny_bind (nextH_end S2 D1 D2 hz hT Z.ti Z.s1 Z.s2 (by omega) (by omega) hend fun h' tk kp => ?_)
      exact wpAny_pure (e h' tk fun c o c1 _ c3 c4 e => kp c o c1 c3 c4 e)
  | succ k ih =>
    intro i s ts hk hi Z Y lt hN hS hR
    refine codeAny_builtin F.entry_extend_loop ?_
    rw [Around.under_plainId F.plain_extend_loop _]
    show wpAny _ A.in1 (pyNext (.ref z) >>= _) _ _ s
    have step : ∀ (x1 x2 : Value) (h' : Heap) (tk : Tok), P1 i x1 → P2 i x2 → ZAt z TI TO i1 i2 S St1 St2 (i + 1) h' → IsTupOf2 h' s.heap.objs.size x1 x2 → h'.objs.size = s.heap.objs.size + 1 →
        (∀ c o, c ≠ z → c ≠ TO → c ≠ i1 → c ≠ i2 → s.heap.get? c = some o → h'.get? c = some o) →
        wpAny (model prog w) A.in1 (updateSeq S (·.push (.ref s.heap.objs.size)) >>= fun _ => again (.builtin "list.extend.loop" ⟨[.ref S, .ref z, res], []⟩))
          (fun fin s' => match fin with | .done f => R (.ok f) s' | .again c' => c'.quiet = true ∧ codeAny (model prog w) A c' R s') (fun e s' => R (.error e) s') { s with heap := h', toks := tk } := by
      intro x1 x2 h' tk p1 p2 Z' pr sz kp
      obtain ⟨c, hS⟩ := hS
      have hS' := kp S _ fz.symm fo.symm i1S i2S hS
      have up := Heap.get?_update_self (Obj.mapSeq (·.push (Value.ref s.heap.objs.size))) hS' rfl
      have sb : Heap.SameBut S h' (h'.update S (Obj.mapSeq (·.push (Value.ref s.heap.objs.size)))) := Heap.SameBut.update ..
      have kn : ∀ b o, N ≤ b → s.heap.get? b = some o → h'.get? b = some o := fun b o hb e => kp b o (ne bz hb) (ne bo hb) (ne b1 hb) (ne b2 hb) e
      refine wpAny_bind ?_
      refine wpAny_updateSeq hS' rfl (wpAny_pure ⟨plainId_quiet F.plain_extend_loop _, ih (i + 1) _ (ts ++ [s.heap.objs.size]) (by omega) (by omega) (Z'.frame D1 D2 f1 f2 fz ft fo fun b o hb e => sb.extBut b o hb e) ?_ (by simp [lt]) ?_ ?_ fun h2 tk2 ts' kp2 y1 y2 y3 => ?_⟩) ?_ ?_
      · have Y2 := Y.push hN kn (by rw [lt]; exact p1) (by rw [lt]; exact p2) pr
        exact Y2.keep fun b o hb e => sb.extBut b o (ne bS hb) e
      · show N ≤ (h'.update S _).objs.size
        rw [sb.1]; omega
      · refine ⟨match (Obj.mapSeq (·.push (Value.ref s.heap.objs.size)) { cls := .type "list", dict := none, data := .seq (ts.map Value.ref).toArray c, slots := #[] }).data with
          | .seq _ c => c
          | _ => 0, up.trans ?_⟩
        simp [Obj.mapSeq]
      · exact hR h2 tk2 ts' (fun b o c1 c2 c3 c4 c5 e => kp2 b o c1 c2 c3 c4 c5 (sb.extBut b o c5 (kp b o c1 c2 c3 c4 e))) y1 y2 y3
      · rw [List.size_toArray, List.length_map]; omega
      · show ((ts.map Value.ref).toArray.push _).size ≤ sizeLine + 1
        rw [Array.size_push, List.size_toArray, List.length_map]; omega
    rcases Z.zz with ⟨hz, a, b, ho⟩ | ⟨T, f, oT, hz, hT, r1, r2, r3, r4⟩
    · refine wpAny_bind (wpAny_pyNext_zipD2_item S2 D1 D2 hz Z.ti ho Z.s1 Z.s2 (by omega) (by omega) fun x1 x2 h' tk p1 p2 a1 a2 a3 a4 a5 a6 kp => ?_)
      exact step x1 x2 h' tk p1 p2 ⟨kp _ _ S2.TIz S2.TITO S2.TIi1 S2.TIi2 Z.ti, a3, a4, .inr ⟨s.heap.objs.size, false, _, a1, a5, ne bz hN, ne b1 hN, ne b2 hN, ne bS hN⟩⟩ a5 a6 kp
    · refine wpAny_bind (nextH_item S2 D1 D2 hz hT Z.ti Z.s1 Z.s2 (by omega) (by omega) fun x1 x2 h' tk p1 p2 a1 a3 a4 a5 a6 kp => ?_)
      exact step x1 x2 h' tk p1 p2 ⟨kp _ _ S2.TIz S2.TIi1 S2.TIi2 Z.ti, a3, a4, .inr ⟨T, true, oT, a1, kp _ _ r1 r2 r3 hT, r1, r2, r3, r4⟩⟩ a5 a6 fun c o c1 _ c3 c4 e => kp c o c1 c3 c4 e
theorem extend_zip {S : Addr} {N c₀ : Nat} {res : Value} {R : Result → Shared → Prop} (S2 : ZipSep2 z TI TO i1 i2 fp1 fp2) (D1 : Draws prog w A.in1.in1 i1 fp1 n1 P1 St1) (D2 : Draws prog w A.in1.in1 i2 fp2 n2 P2 St2) (f1 : S ∉ fp1) (f2 : S ∉ fp2) (fz : z ≠ S) (ft : TI ≠ S) (fo : TO ≠ S)
    (bz : z < N) (bo : TO < N) (b1 : i1 < N) (b2 : i2 < N) (bS : S < N) (hn : min n1 n2 ≤ sizeLine) (hz : IsZip s.heap z TI TO .none) (Z : ZAt z TI TO i1 i2 S St1 St2 0 s.heap) (hN : N ≤ s.heap.objs.size)
    (hS : s.heap.get? S = some { cls := .type "list", data := .seq #[] c₀ })
    (hR : ∀ h' tk ts', (∀ b o, b ≠ z → b ≠ TO → b ≠ i1 → b ≠ i2 → b ≠ S → s.heap.get? b = some o → h'.get? b = some o) → ZAcc P1 P2 N h' ts' → ts'.length = min n1 n2 → IsLst h' S ts' → R (.ok (.ret res)) { s with heap := h', toks := tk }) :
    wpAny (model prog w) A.in1 (Builtin.List.listExtendWith (.ref S) (.ref z) res)
      (fun fin s' => match fin with | .done f => R (.ok f) s' | .again c' => c'.quiet = true ∧ codeAny (model prog w) A c' R s') (fun e s' => R (.error e) s') s := by
  have hT : s.TypeIs (.ref z) "zip" := ⟨_, hz, rfl⟩
  unfold Builtin.List.listExtendWith
  refine wpAny_bind (wpAny_typeOf hT ?_)
  have h1 : Builtin.List.listSameRef (.ref S) (.ref z) = false := by simp [Builtin.List.listSameRef, fz.symm]
  have h2 : (Value.type "zip" == Value.type "list") = false := by decide
  have h3 : (Value.type "zip" == Value.type "tuple") = false := by decide
  simp only [h1, h2, h3, Bool.or_false, Bool.false_eq_true, if_false]
  refine wpAny_bind (wpAny_pyIter_zip hz ?_)
  refine wpAny_bind (wpAny_holding ?_)
  unfold Builtin.List.listLengthHint
  refine wpAny_bind (wpAny_specialOf hT zip_no_len ?_)
  show wpAny _ A.in1 (specialOf (Value.ref z) (Str.ofString "__length_hint__") >>= _) _ _ _
  refine wpAny_bind (wpAny_specialOf hT zip_no_hint ?_)
  refine wpAny_pure ?_
  show wpAny _ A.in1 (rule "list.extend.makes-room" >>= fun _ => Builtin.List.listTouch (.ref S) >>= fun _ =>
    again (.builtin "list.extend.loop" ⟨[.ref S, .ref z, res], []⟩)) _ _ _
  refine wpAny_bind (wpAny_rule ?_)
  refine wpAny_bind ?_
  show wpAny _ A.in1 (updateSeq S (·.push .none) >>= fun _ => updateSeq S (·.pop)) _ _ _
  refine wpAny_bind (wpAny_updateSeq hS rfl ?_)
  have hS₂ := Heap.get?_update_self (Obj.mapSeq (·.push Value.none)) hS rfl
  refine wpAny_updateSeq (hz := by seq_fits) hS₂ rfl ?_
  have hS₃ := Heap.get?_update_self (Obj.mapSeq (·.pop)) hS₂ rfl
  have sb1 : Heap.SameBut S s.heap (s.heap.update S (Obj.mapSeq (·.push Value.none))) := Heap.SameBut.update ..
  have sb2 : Heap.SameBut S (s.heap.update S (Obj.mapSeq (·.push Value.none))) ((s.heap.update S (Obj.mapSeq (·.push Value.none))).update S (Obj.mapSeq (·.pop))) := Heap.SameBut.update ..
  have oth : ∀ b o, b ≠ S → s.heap.get? b = some o → ((s.heap.update S (Obj.mapSeq (·.push Value.none))).update S (Obj.mapSeq (·.pop))).get? b = some o :=
    fun b o hb e => sb2.extBut b o hb (sb1.extBut b o hb e)
  refine wpAny_pure ⟨plainId_quiet F.plain_extend_loop _, loopZ S2 D1 D2 f1 f2 fz ft fo bz bo b1 b2 bS hn _ 0 _ [] rfl (Nat.zero_le _) (Z.frame D1 D2 f1 f2 fz ft fo oth) ⟨.nil, fun t ht => (nomatch ht), fun j t ht => by simp at ht⟩ rfl ?_ ⟨_, hS₃⟩ fun h' tk ts' kp a1 a2 a3 => ?_⟩
  · show N ≤ ((s.heap.update S (Obj.mapSeq (·.push Value.none))).update S (Obj.mapSeq (·.pop))).objs.size
    rw [sb2.1, sb1.1]; exact hN
  · exact hR h' tk ts' (fun b o c1 c2 c3 c4 c5 e => kp b o c1 c2 c3 c4 c5 (oth b o c5 e)) a1 a2 a3
theorem call_listZip {Q : Value → Shared → Prop} (S2 : ZipSep2 z TI TO i1 i2 fp1 fp2) (D1 : Draws prog w A.in1.in1.in1 i1 fp1 n1 P1 St1) (D2 : Draws prog w A.in1.in1.in1 i2 fp2 n2 P2 St2) (l1 : ∀ b ∈ fp1, b < s.heap.objs.size) (l2 : ∀ b ∈ fp2, b < s.heap.objs.size)
    (hn : min n1 n2 ≤ sizeLine) (hz : IsZip s.heap z TI TO .none) (hti : IsTupOf2 s.heap TI (.ref i1) (.ref i2)) (hto : ∃ a b, IsTupOf2 s.heap TO a b) (s1 : St1 0 s.heap) (s2 : St2 0 s.heap)
    (hQ : ∀ h' tk ts', (∀ b o, b ≠ z → b ≠ TO → b ≠ i1 → b ≠ i2 → s.heap.get? b = some o → h'.get? b = some o) → ZAcc P1 P2 (s.heap.objs.size + 1) h' ts' → ts'.length = min n1 n2 → IsLst h' s.heap.objs.size ts' → Q (.ref s.heap.objs.size) { s with heap := h', toks := tk }) :
    wpAny (model prog w) A (call (.type "list") [.ref z]) Q E s := by
  have lz := Heap.lt_size hz
  have lti := Heap.lt_size hti
  obtain ⟨a, b, hto⟩ := hto
  have lto := Heap.lt_size hto
  have li1 := l1 _ S2.mem1
  have li2 := l2 _ S2.mem2
  have sz : (s.heap.push { cls := .type "list", data := .seq #[] }).objs.size = s.heap.objs.size + 1 := Heap.size_push ..
  refine callType_codes (Q₁ := fun obj s₁ => obj = .ref s.heap.objs.size ∧ s₁ = { s with heap := s.heap.push { cls := .type "list", data := .seq #[] } }) F.called_list (F.typeCall_list_1 _) F.entry_list_init
    (code_list_new _ ⟨rfl, rfl⟩) fun obj s₁ h₁ => ?_
  obtain ⟨rfl, rfl⟩ := h₁
  have hS : (s.heap.push { cls := .type "list", data := .seq #[] }).get? s.heap.objs.size = some { cls := .type "list", data := .seq #[] } := Heap.get?_push_size _ rfl
  refine ⟨⟨_, hS, rfl⟩, F.args_list_init_2 _ _, ?_⟩
  show wpAny _ A.in1.in1 (do let old ← Builtin.List.listItems (.ref s.heap.objs.size); Builtin.List.listUpdate (.ref s.heap.objs.size) (fun _ => #[]); letGo old.toList.reverse; Builtin.List.listExtendWith (.ref s.heap.objs.size) (.ref z) .none) _ _ _
  refine wpAny_bind ?_
  unfold Builtin.List.listItems
  refine wpAny_bind (wpAny_seqItems hS rfl (wpAny_pure ?_))
  show wpAny _ A.in1.in1 (updateSeq s.heap.objs.size (fun _ => #[]) >>= fun _ => letGo (#[] : Array Value).toList.reverse >>= fun _ => Builtin.List.listExtendWith (.ref s.heap.objs.size) (.ref z) .none) _ _ _
  refine wpAny_bind (wpAny_updateSeq hS rfl ?_)
  have hS₂ := Heap.get?_update_self (Obj.mapSeq (fun _ => (#[] : Array Value))) hS rfl
  have sb : Heap.SameBut s.heap.objs.size (s.heap.push { cls := .type "list", data := .seq #[] }) ((s.heap.push { cls := .type "list", data := .seq #[] }).update s.heap.objs.size (Obj.mapSeq (fun _ => (#[] : Array Value)))) := Heap.SameBut.update ..
  have kp : ∀ b o, b ≠ s.heap.objs.size → s.heap.get? b = some o → ((s.heap.push { cls := .type "list", data := .seq #[] }).update s.heap.objs.size (Obj.mapSeq (fun _ => (#[] : Array Value)))).get? b = some o := fun b o hb e => sb.extBut b o hb (Heap.get?_push_of_some _ e)
  have nS1 : s.heap.objs.size ∉ fp1 := fun h => Nat.lt_irrefl _ (l1 _ h)
  have nS2 : s.heap.objs.size ∉ fp2 := fun h => Nat.lt_irrefl _ (l2 _ h)
  refine wpAny_bind (wpAny_letGo ?_)
  refine extend_zip (N := s.heap.objs.size + 1) S2 D1 D2 nS1 nS2 (Nat.ne_of_lt lz) (Nat.ne_of_lt lti) (Nat.ne_of_lt lto) (Nat.lt_succ_of_lt lz) (Nat.lt_succ_of_lt lto) (Nat.lt_succ_of_lt li1) (Nat.lt_succ_of_lt li2) (Nat.lt_succ_self _) hn (kp _ _ (Nat.ne_of_lt lz) hz) ?_ ?_ hS₂ fun h' tk ts' k2 a1 a2 a3 => ?_
  · exact ⟨kp _ _ (Nat.ne_of_lt lti) hti, D1.frame _ _ _ s1 fun b hb o e => kp b o (fun q => nS1 (q ▸ hb)) e, D2.frame _ _ _ s2 fun b hb o e => kp b o (fun q => nS2 (q ▸ hb)) e, .inl ⟨kp _ _ (Nat.ne_of_lt lz) hz, a, b, kp _ _ (Nat.ne_of_lt lto) hto⟩⟩
  · show s.heap.objs.size + 1 ≤ ((s.heap.push { cls := .type "list", data := .seq #[] }).update s.heap.objs.size (Obj.mapSeq (fun _ => (#[] : Array Value)))).objs.size
    rw [sb.1, sz]
    exact Nat.le_refl _
  · exact ⟨rfl, hQ h' tk ts' (fun b o c1 c2 c3 c4 e => k2 b o c1 c2 c3 c4 (Nat.ne_of_lt (Heap.lt_size e)) (kp b o (Nat.ne_of_lt (Heap.lt_size e)) e)) a1 a2 a3⟩
end
end PySem

namespace L2
open PySem PySem.Spec PyProof.Rows
inductive Zips : Hp → List (V × V) → List Addr → Hp → Prop
  | nil {H : Hp} : Zips H [] [] H
  | cons {H H2 : Hp} {t : Addr} {o : Obj} {x y : V} {ps : List (V × V)} {ts : List Addr} : H t = none → L3.TObj o → Zips (upd H t (.frz o (.tup [x, y]))) ps ts H2 → Zips H ((x, y) :: ps) (t :: ts) H2
def tListZip (K : PySem.W.Frag) (ta : TA) : TE := fun σ H Q => ta σ H fun vs H1 => ∃ (a b : Addr) (xs ys : List V), vs = [.ref a, .ref b] ∧ (SqL K H1 a xs ∨ SqT K H1 a xs) ∧ (SqL K H1 b ys ∨ SqT K H1 b ys) ∧
  ∀ H2 ts q, Zips H1 (xs.zip ys) ts H2 → H2 q = none → Q (.ref q) (upd H2 q (.lst (ts.map V.ref)))
theorem zsrc {X : Cx} {pins : List (Addr × Obj)} {σ : St} {H : Hp} {s : Shared} {a : Addr} {xs : List V} (I : Inv X pins σ H s) (h : SqL X.K H a xs ∨ SqT X.K H a xs) :
    ∃ (o : Obj) (Hq : Heap → Prop) (its : List Value) (Sf : Addr → Nat → Heap → Prop), Begins (.ref a) o Hq ∧ Hq s.heap ∧ Vals xs its ∧ a < s.heap.objs.size ∧ xs.length ≤ sizeLine ∧
      (∀ (A : Around) (it : Addr), A.handled = none → a ≠ it → Draws X.prog X.w A it [it, a] its.toArray.size (fun i v => its.toArray[i]? = some v) (Sf it)) ∧
      ∀ it h', h'.get? it = some o → (∀ b u, s.heap.get? b = some u → h'.get? b = some u) → Sf it 0 h' := by
  rcases h with h | h
  · obtain ⟨its, rv, p, z⟩ := I.list h
    exact ⟨_, _, its, fun it i h => h.IsListIter it a i ∧ h.IsList a its.toArray, begins_list a its.toArray, p.isList, rv, p.lt, z, fun A it hh ne => Draws.list hh it a ne its.toArray, fun it h' e k => ⟨⟨_, e, rfl, rfl⟩, p.isList.at fun o e => k _ _ e⟩⟩
  · obtain ⟨its, rv, p, z⟩ := I.tuple h
    have p' : s.heap.IsTuple a its.toArray := p
    obtain ⟨o1, ho1, _⟩ := id p
    exact ⟨_, _, its, fun it i h => h.IsTupleIter it a i ∧ h.IsTuple a its.toArray, begins_tuple a its.toArray, p', rv, Heap.lt_size ho1, z, fun A it hh ne => Draws.tuple hh it a ne its.toArray, fun it h' e k => ⟨⟨_, e, rfl, rfl⟩, p'.at fun o e => k _ _ e⟩⟩
theorem zips_inv {X : Cx} {pins : List (Addr × Obj)} {σ : St} {s : Shared} {hF : Heap} {tk : Tok} {N : Addr} : ∀ (ps : List (V × V)) (ts : List Addr) (H : Hp) (G : Heap), Inv X pins σ H { s with heap := G, toks := tk } → (∀ b o, G.get? b = some o → hF.get? b = some o) → ts.length = ps.length → ts.Pairwise (· < ·) →
    (∀ t ∈ ts, H t = none ∧ G.get? t = none) → (∀ (j : Nat) (t : Addr) (x y : V), ts[j]? = some t → ps[j]? = some (x, y) → ∃ u v, RelV x u ∧ RelV y v ∧ IsTupOf2 hF t u v) →
    ∃ H2 G2, Zips H ps ts H2 ∧ Inv X pins σ H2 { s with heap := G2, toks := tk } ∧ (∀ b o, G2.get? b = some o → hF.get? b = some o) ∧ (∀ b, b ∉ ts → G.get? b = none → G2.get? b = none) ∧ ∀ b, b ∉ ts → H b = none → H2 b = none
  | [], [], H, G, I, k, _, _, _, _ => ⟨H, G, .nil, I, k, fun _ _ h => h, fun _ _ h => h⟩
  | [], _ :: _, _, _, _, _, l, _, _, _ => by simp at l
  | _ :: _, [], _, _, _, _, l, _, _, _ => by simp at l
  | (x, y) :: ps, t :: ts, H, G, I, k, l, pw, fr, at_ => by
    obtain ⟨G', g1, g2⟩ := restrict hF fun b => (G.get? b).isSome || (b == t)
    have kG : ∀ b u, G.get? b = some u → G'.get? b = some u := fun b u e => by
      rw [g1 b (by rw [e]; rfl)]; exact k b u e
    have kF : ∀ b o, G'.get? b = some o → hF.get? b = some o := fun b o e => by
      cases h : ((G.get? b).isSome || (b == t)) with
      | true => rw [← g1 b h]; exact e
      | false => rw [g2 b h] at e; cases e
    obtain ⟨u, v, r1, r2, q⟩ := at_ 0 t x y rfl rfl
    have hG' : G'.get? t = some { cls := .type "tuple", data := .seq #[u, v] } := by rw [g1 t (by simp)]; exact q
    have I2 := I.laidN (h' := G') (t' := tk) kG (fr t (by simp)).2 (fr t (by simp)).1 (show ObjOk X.prog X.w (upd H t (.frz { cls := .type "tuple", data := .seq #[u, v] } (.tup [x, y]))) G' t (.frz { cls := .type "tuple", data := .seq #[u, v] } (.tup [x, y])) from ⟨hG', by simp [sizeLine_eq], [u, v], .cons r1 (.cons r2 .nil), by
      exact ⟨_, hG', rfl, _, rfl⟩⟩)
    have pw' := List.pairwise_cons.mp pw
    have nt : ∀ c ∈ ts, c ≠ t := fun c hc => Nat.ne_of_gt (pw'.1 c hc)
    obtain ⟨H2, G2, z1, z2, z3, z4, z5⟩ := zips_inv (N := N) ps ts (upd H t (.frz { cls := .type "tuple", data := .seq #[u, v] } (.tup [x, y]))) G' I2 kF (by simpa using l) pw'.2 (fun c hc => ⟨by rw [upd_ne (nt c hc)]; exact (fr c (List.mem_cons_of_mem _ hc)).1, by
      refine g2 c ?_
      rw [(fr c (List.mem_cons_of_mem _ hc)).2]
      simpa using nt c hc⟩) fun j c a b h1 h2 => at_ (j + 1) c a b h1 h2
    refine ⟨H2, G2, .cons (fr t (by simp)).1 ⟨rfl, rfl⟩ z1, z2, z3, fun b hb e => z4 b (fun h => hb (List.mem_cons_of_mem _ h)) ?_, fun b hb e => z5 b (fun h => hb (List.mem_cons_of_mem _ h)) ?_⟩
    · refine g2 b ?_
      rw [e]
      simpa using fun h : b = t => hb (by rw [h]; simp)
    · rw [upd_ne fun h : b = t => hb (by rw [h]; simp)]; exact e
theorem vals_get : ∀ {xs : List V} {us : List Value} {j : Nat} {u : Value}, Vals xs us → us[j]? = some u → ∃ x, xs[j]? = some x ∧ RelV x u
  | _, _, _, _, .nil, h => by simp at h
  | x :: xs, w :: us, 0, u, .cons r _, h => by
    cases h
    exact ⟨x, rfl, r⟩
  | x :: xs, w :: us, j + 1, u, .cons _ r, h => by
    have h : us[j]? = some u := by simpa using h
    obtain ⟨x, e, r⟩ := vals_get r h
    exact ⟨x, by simpa using e, r⟩
theorem vals_len : ∀ {xs : List V} {us : List Value}, Vals xs us → xs.length = us.length
  | _, _, .nil => rfl
  | _ :: _, _ :: _, .cons _ r => by rw [List.length_cons, List.length_cons, vals_len r]
theorem vRefsZ : ∀ ts : List Addr, Vals (ts.map V.ref) (ts.map Value.ref)
  | [] => .nil
  | _ :: ts => .cons rfl (vRefsZ ts)
theorem pe_listZip {X : Cx} {e e2 : Expr} {ta : TA} {p p2 pos pos2 : Pos} (hc : X.calm = true) (hg : Gl X "zip") (hm : X.mg "zip" = none) (hg2 : Gl X "list") (hm2 : X.mg "list" = none) (ha : PA X [e, e2] ta)
    (hs : starEach [e, e2] X.env = (false, eval e X.env) :: starEach [e2] X.env := by rfl) (hpl : (backTo pos (starEach [e2] X.env)).any (·.1) = false := by rfl)
    (na : starEach [.Call (.Name "zip" p2) [e, e2] [] pos] X.env = (false, eval (.Call (.Name "zip" p2) [e, e2] [] pos) X.env) :: starEach [] X.env := by rfl) :
    PE X (.Call (.Name "list" p) [.Call (.Name "zip" p2) [e, e2] [] pos] [] pos2) (tListZip X.K ta) := by
  refine ⟨fun pins s σ H Q I h => ?_⟩
  refine Call_ (ld_blt I hg2 hm2 boot_list (PyProof.Rows.callWith_type1 (args_cons (Call_ (ld_blt I hg hm PyProof.Rows.boot_zip (PyProof.Rows.callWith_type1 (thn (ha.run pos pins s σ H _ I h) fun us s1 ⟨vs, H1, I1, r1, q1⟩ => ?_) hs hpl))) na) na))
  obtain ⟨a, b, xs, ys, ex, hx, hy, q1⟩ := q1
  subst ex
  cases r1 with
  | cons r rr =>
    cases rr with
    | cons r' rr =>
      cases rr
      cases r
      cases r'
      obtain ⟨o1, Hq1, us1, Sf1, B1, hb1, v1, la, zx, dr1, st1⟩ := zsrc I1 hx
      obtain ⟨o2, Hq2, us2, Sf2, B2, hb2, v2, lb, zy, dr2, st2⟩ := zsrc I1 hy
      refine zip_begins2 B1 B2 hb1 hb2 fun h' z1 z2 z3 z4 z5 z6 kp => args_nil ?_
      have hh := I1.ok.hd hc
      have e1 := vals_len v1
      have e2 := vals_len v2
      have sz1 : us1.toArray.size = us1.length := List.size_toArray
      have sz2 : us2.toArray.size = us2.length := List.size_toArray
      refine call_listZip (n1 := us1.toArray.size) (n2 := us2.toArray.size) (zip_sep2 (N := s1.heap.objs.size) (fp1 := [a]) (fp2 := [b]) (fun c hc => by rw [List.mem_singleton.mp hc]; exact la) (fun c hc => by rw [List.mem_singleton.mp hc]; exact lb)) (dr1 _ _ hh (Nat.ne_of_lt la)) (dr2 _ _ hh (Nat.ne_of_lt (Nat.lt_succ_of_lt lb))) ?_ ?_ ?_ z1 z2 ⟨_, _, z3⟩ (st1 _ _ z4 kp) (st2 _ _ z5 kp) fun h2 tk ts k2 a1 a2 a3 => ?_
      · intro c hc
        show c < h'.objs.size
        rw [z6]
        simp only [List.mem_cons, List.not_mem_nil, or_false] at hc
        rcases hc with rfl | rfl
        · exact Nat.lt_add_of_pos_right (by decide)
        · exact Nat.lt_of_lt_of_le la (Nat.le_add_right _ _)
      · intro c hc
        show c < h'.objs.size
        rw [z6]
        simp only [List.mem_cons, List.not_mem_nil, or_false] at hc
        rcases hc with rfl | rfl
        · exact Nat.add_lt_add_left (by decide) _
        · exact Nat.lt_of_lt_of_le lb (Nat.le_add_right _ _)
      · omega
      · have lenT : ts.length = (xs.zip ys).length := by rw [a2, List.length_zip]; omega
        have kF : ∀ b o, s1.heap.get? b = some o → h2.get? b = some o := fun b o e => by
          have l := Heap.lt_size e
          exact k2 b o (Nat.ne_of_lt (Nat.lt_of_lt_of_le l (Nat.le_add_right _ _))) (Nat.ne_of_lt (Nat.lt_of_lt_of_le l (Nat.le_add_right _ _))) (Nat.ne_of_lt l) (Nat.ne_of_lt (Nat.lt_succ_of_lt l)) (kp b o e)
        have N5 : s1.heap.objs.size ≤ h'.objs.size := by rw [z6]; exact Nat.le_add_right _ _
        have loT : ∀ t ∈ ts, s1.heap.objs.size ≤ t := fun t ht => Nat.le_trans N5 (Nat.le_of_succ_le (a1.lo t ht))
        have none_of : ∀ t, s1.heap.objs.size ≤ t → s1.heap.get? t = none := fun t ht => by
          cases e : s1.heap.get? t with
          | none => rfl
          | some o => exact absurd (Heap.lt_size e) (Nat.not_lt.mpr ht)
        have Ik : Inv X pins σ H1 { s1 with heap := s1.heap, toks := tk } := I1.kept (t' := tk) fun _ _ e => e
        obtain ⟨H2, G2, y1, y2, y3, y4, y5⟩ := zips_inv (hF := h2) (N := 0) (xs.zip ys) ts H1 s1.heap Ik kF lenT a1.asc (fun t ht => ⟨I1.hok.fresh (loT t ht), none_of t (loT t ht)⟩) fun j t x y h1 h2 => by
          obtain ⟨u, v, p1, p2, q⟩ := a1.pr j t h1
          obtain ⟨x', e3, r3⟩ := vals_get v1 (by simpa using p1)
          obtain ⟨y', e4, r4⟩ := vals_get v2 (by simpa using p2)
          have e5 : (xs.zip ys)[j]? = some (x', y') := List.getElem?_zip_eq_some.mpr ⟨e3, e4⟩
          rw [h2] at e5
          cases e5
          exact ⟨u, v, r3, r4, q⟩
        have nS : h'.objs.size ∉ ts := fun h => Nat.lt_irrefl _ (a1.lo _ h)
        have f1 : H2 h'.objs.size = none := y5 _ nS (I1.hok.fresh N5)
        obtain ⟨c, a3⟩ := a3
        refine ⟨.ref h'.objs.size, upd H2 h'.objs.size (.lst (ts.map V.ref)), y2.laidN (h' := h2) (t' := tk) y3 (y4 _ nS (none_of _ N5)) f1 (show ObjOk X.prog X.w _ _ _ (.lst (ts.map V.ref)) from ⟨?_, ts.map Value.ref, c, ?_, a3⟩), rfl, q1 H2 ts _ y1 f1⟩
        · rw [List.length_map, a2]; omega
        · exact vRefsZ ts
end L2

namespace L3
open PySem PySem.Spec PyProof.Rows L2
def wListZip (w : WL) : WX := fun ρ μ P => w ρ μ fun us μ1 => ∃ (u v : U) (ds es : List PyData), us = [u, v] ∧ itemsU μ1 u = some (ds.map U.d) ∧ itemsU μ1 v = some (es.map U.d) ∧ P (.d (.list (zipD ds es))) μ1
theorem rps_zip {K : Fg} {G : Hp} : ∀ {xs ys : List V} {ds es : List PyData}, Rps K G xs ds → Rps K G ys es → Rps K G ((xs.zip ys).map (·.1)) ((ds.zip es).map (·.1)) ∧ Rps K G ((xs.zip ys).map (·.2)) ((ds.zip es).map (·.2))
  | _, _, _, _, .nil, h => by cases h <;> exact ⟨.nil, .nil⟩
  | _, _, _, _, .cons a r, .nil => ⟨.nil, .nil⟩
  | _, _, _, _, .cons a r, .cons b q => let ⟨h1, h2⟩ := rps_zip r q; ⟨.cons a h1, .cons b h2⟩
theorem zips_G {K : Fg} {F : Hp} {μ : Mu} : ∀ {ps : List (V × V)} {ts : List Addr} {H H2 : Hp}, Zips H ps ts H2 → ∀ {G : Hp} {qs : List (PyData × PyData)}, St3 K F G H μ → Rps K G (ps.map (·.1)) (qs.map (·.1)) → Rps K G (ps.map (·.2)) (qs.map (·.2)) →
    ∃ G2, Ext G G2 ∧ St3 K F G2 H2 μ ∧ Rps K G2 (ts.map V.ref) (qs.map fun q => PyData.tuple [q.1, q.2])
  | _, _, _, _, .nil, G, [], S, _, _ => ⟨G, Ext.refl G, S, .nil⟩
  | _, _, _, _, .nil, G, _ :: _, S, h, _ => nomatch h
  | _, _, _, _, .cons ht to z, G, [], S, h, _ => nomatch h
  | _, _, _, _, .cons (t := t) ht to z, G, q :: qs, S, .cons a r1, .cons b r2 => by
    obtain ⟨e1, S1⟩ := S.newG ht
    obtain ⟨G2, e2, S2, r⟩ := zips_G z S1 (r1.mono e1) (r2.mono e1)
    refine ⟨G2, e1.trans e2, S2, .cons ?_ r⟩
    exact Rp.tup ((TupAt.new to).mono e2) (.cons (a.mono (e1.trans e2)) (.cons (b.mono (e1.trans e2)) .nil))
theorem re_listZip {K : Fg} {ta : TA} {wa : WL} (h : RA K ta wa) : RE K (tListZip K ta) (wListZip wa) := fun F G H μ σ ρ P Q S w q => h F G H μ σ ρ _ _ S w fun vs us G1 H1 μ1 e1 S1 r1 ⟨u, v, ds, es, e, hu, hv, p⟩ => by
  subst e
  obtain ⟨x, y, rfl, q1, q2⟩ := rus2 r1
  obtain ⟨a, xs, rfl, h1, h2⟩ := itemsU_ok S1 q1 hu
  obtain ⟨b, ys, rfl, h3, h4⟩ := itemsU_ok S1 q2 hv
  have k1 : Rps K G1 xs ds := d_rus h2
  have k2 : Rps K G1 ys es := d_rus h4
  refine ⟨a, b, xs, ys, rfl, h1, h3, fun H2 ts c z hc => ?_⟩
  obtain ⟨m1, m2⟩ := rps_zip k1 k2
  obtain ⟨G2, e2, S2, r⟩ := zips_G z S1 m1 m2
  obtain ⟨e3, S3⟩ := S2.newG (o := .lst (ts.map V.ref)) hc
  exact q (.ref c) (.d (.list (zipD ds es))) _ _ μ1 ((e1.trans e2).trans e3) S3 (Rp.lst (SqL.of upd_same) (r.mono e3)) p
def w_listZip {X : Cx} {e e2 : Expr} {ta : TA} {wa : WL} {p p2 pos pos2 : Pos} (hc : X.calm = true) (hg : Gl X "zip") (hm : X.mg "zip" = none) (hg2 : Gl X "list") (hm2 : X.mg "list" = none) (ha : WAr X [e, e2] ta wa)
    (hs : starEach [e, e2] X.env = (false, eval e X.env) :: starEach [e2] X.env := by rfl) (hpl : (backTo pos (starEach [e2] X.env)).any (·.1) = false := by rfl)
    (na : starEach [.Call (.Name "zip" p2) [e, e2] [] pos] X.env = (false, eval (.Call (.Name "zip" p2) [e, e2] [] pos) X.env) :: starEach [] X.env := by rfl) :
    WE X (.Call (.Name "list" p) [.Call (.Name "zip" p2) [e, e2] [] pos] [] pos2) (tListZip X.K ta) (wListZip wa) := ⟨pe_listZip hc hg hm hg2 hm2 ha.pa hs hpl na, re_listZip ha.ra⟩
end L3

/-! what the worths say of known kinds: for simp -/
namespace L3
open PySem PySem.Spec PyProof.Rows L2
section
variable {α : Type} {x y z w v : U} {xs : List U} {i j : Int} {s t : Str} {b c : Bool} {f : Bool → Bool} {μ : Mu} {P : XP} {d1 d2 d3 d4 d5 : PyData} {p : List PyData → Prop}
theorem at_n {xs : List α} {n : Nat} (h : n < xs.length) : atI xs (n : Int) = some xs[n] := by
  have e : ixN xs.length (n : Int) = some n := by
    unfold ixN
    rw [if_pos (by omega), if_pos (by omega)]
    simp
  unfold atI
  rw [e]
  exact List.getElem?_eq_getElem h
theorem at_0 {x : α} {xs : List α} : atI (x :: xs) 0 = some x := at_n (xs := x :: xs) (n := 0) (by simp only [List.length_cons]; omega)
theorem at_1 {x y : α} {xs : List α} : atI (x :: y :: xs) 1 = some y := at_n (xs := x :: y :: xs) (n := 1) (by simp only [List.length_cons]; omega)
theorem at_2 {x y z : α} {xs : List α} : atI (x :: y :: z :: xs) 2 = some z := at_n (xs := x :: y :: z :: xs) (n := 2) (by simp only [List.length_cons]; omega)
theorem at_3 {x y z w : α} {xs : List α} : atI (x :: y :: z :: w :: xs) 3 = some w := at_n (xs := x :: y :: z :: w :: xs) (n := 3) (by simp only [List.length_cons]; omega)
theorem eqA_int : sEqA f (.d (.int i)) (.d (.int j)) μ P = P (.d (.bool (f (decide (i = j))))) μ := rfl
theorem eqA_str : sEqA f (.d (.str s)) (.d (.str t)) μ P = P (.d (.bool (f (decide (s = t))))) μ := rfl
theorem eqA_bl : sEqA f (.d (.bool b)) (.d (.bool c)) μ P = P (.d (.bool (f (decide (b = c))))) μ := rfl
theorem lt_int : sLt (.d (.int i)) (.d (.int j)) μ P = P (.d (.bool (decide (i < j)))) μ := rfl
theorem gt_int : sGt (.d (.int i)) (.d (.int j)) μ P = P (.d (.bool (decide (j < i)))) μ := rfl
theorem le_int : sLe (.d (.int i)) (.d (.int j)) μ P = P (.d (.bool (decide (i ≤ j)))) μ := rfl
theorem ge_int : sGe (.d (.int i)) (.d (.int j)) μ P = P (.d (.bool (decide (j ≤ i)))) μ := rfl
theorem lt_str : sLt (.d (.str s)) (.d (.str t)) μ P = P (.d (.bool (L3M.ltS s t))) μ := rfl
theorem gt_str : sGt (.d (.str s)) (.d (.str t)) μ P = P (.d (.bool (L3M.ltS t s))) μ := rfl
theorem le_str : sLe (.d (.str s)) (.d (.str t)) μ P = P (.d (.bool (!L3M.ltS t s))) μ := rfl
theorem ge_str : sGe (.d (.str s)) (.d (.str t)) μ P = P (.d (.bool (!L3M.ltS s t))) μ := rfl
theorem in_strs {w : U} {zs : List Str} (h : itemsU μ w = some (zs.map fun y => U.d (.str y))) (q : P (.d (.bool (f (decide (s ∈ zs))))) μ) : sInA f (.d (.str s)) w μ P := ⟨s, zs, rfl, h, q⟩
theorem add_int : sAdd (.d (.int i)) (.d (.int j)) μ P = P (.d (.int (i + j))) μ := rfl
theorem add_str : sAdd (.d (.str s)) (.d (.str t)) μ P = (s.length + t.length ≤ sizeLine ∧ P (.d (.str (s ++ t))) μ) := rfl
theorem mdp : ∀ {xs ys : List PyData}, xs.map U.d = ys.map U.d → xs = ys
  | [], [], _ => rfl
  | x :: xs, y :: ys, h => by
    simp only [List.map_cons, List.cons.injEq, U.d.injEq] at h
    rw [h.1, mdp h.2]
  | [], y :: ys, h => by simp at h
  | x :: xs, [], h => by simp at h
theorem exd {xs : List PyData} : (∃ ds : List PyData, xs.map U.d = ds.map U.d ∧ p ds) ↔ p xs :=
  ⟨fun ⟨ds, e, h⟩ => by rw [mdp e]; exact h, fun h => ⟨xs, rfl, h⟩⟩
theorem exd0 : (∃ ds : List PyData, [] = ds.map U.d ∧ p ds) ↔ p [] := exd (xs := [])
theorem exd1 : (∃ ds : List PyData, [U.d d1] = ds.map U.d ∧ p ds) ↔ p [d1] := exd (xs := [d1])
theorem exd2 : (∃ ds : List PyData, [U.d d1, U.d d2] = ds.map U.d ∧ p ds) ↔ p [d1, d2] := exd (xs := [d1, d2])
theorem exd3 : (∃ ds : List PyData, [U.d d1, U.d d2, U.d d3] = ds.map U.d ∧ p ds) ↔ p [d1, d2, d3] := exd (xs := [d1, d2, d3])
theorem exd4 : (∃ ds : List PyData, [U.d d1, U.d d2, U.d d3, U.d d4] = ds.map U.d ∧ p ds) ↔ p [d1, d2, d3, d4] := exd (xs := [d1, d2, d3, d4])
theorem min_int : qMinA [.d (.int i), .d (.int j)] μ P = P (.d (.int (if j < i then j else i))) μ := rfl
theorem min_str : qMinA [.d (.str s), .d (.str t)] μ P ↔ P (.d (.str (if L3M.ltS t s = true then t else s))) μ :=
  ⟨fun ⟨_, _, e, h⟩ => by cases e; exact h, fun h => ⟨s, t, rfl, h⟩⟩
theorem len_str : qLenA [.d (.str s)] μ P = (s.length ≤ sizeLine ∧ P (.d (.int (s.length : Int))) μ) := rfl
theorem len_lst {l : List PyData} : qLenA [.d (.list l)] μ P ↔ P (.d (.int (l.length : Int))) μ := by
  show (∃ u ws, [U.d (.list l)] = [u] ∧ itemsU μ u = some ws ∧ P (.d (.int (ws.length : Int))) μ) ↔ _
  simp [itemsU]
theorem len_tup {l : List PyData} : qLenA [.d (.tuple l)] μ P ↔ P (.d (.int (l.length : Int))) μ := by
  show (∃ u ws, [U.d (.tuple l)] = [u] ∧ itemsU μ u = some ws ∧ P (.d (.int (ws.length : Int))) μ) ↔ _
  simp [itemsU]
theorem sl0 {n : Nat} (h : n ≤ 64) : n ≤ sizeLine := Nat.le_trans h (by decide)
theorem kk_nb : kitB "NoneType" "bool" = some false := by decide +kernel
theorem kk_nt : kitB "NoneType" "tuple" = some false := by decide +kernel
theorem kk_ni : kitB "NoneType" "int" = some false := by decide +kernel
theorem kk_ns : kitB "NoneType" "str" = some false := by decide +kernel
theorem kk_nl : kitB "NoneType" "list" = some false := by decide +kernel
theorem kk_bb : kitB "bool" "bool" = some true := by decide +kernel
theorem kk_bt : kitB "bool" "tuple" = some false := by decide +kernel
theorem kk_bi : kitB "bool" "int" = some true := by decide +kernel
theorem kk_bs : kitB "bool" "str" = some false := by decide +kernel
theorem kk_bl : kitB "bool" "list" = some false := by decide +kernel
theorem kk_ib : kitB "int" "bool" = some false := by decide +kernel
theorem kk_it : kitB "int" "tuple" = some false := by decide +kernel
theorem kk_ii : kitB "int" "int" = some true := by decide +kernel
theorem kk_is : kitB "int" "str" = some false := by decide +kernel
theorem kk_il : kitB "int" "list" = some false := by decide +kernel
theorem kk_sb : kitB "str" "bool" = some false := by decide +kernel
theorem kk_st : kitB "str" "tuple" = some false := by decide +kernel
theorem kk_si : kitB "str" "int" = some false := by decide +kernel
theorem kk_ss : kitB "str" "str" = some true := by decide +kernel
theorem kk_sl : kitB "str" "list" = some false := by decide +kernel
theorem kk_tb : kitB "tuple" "bool" = some false := by decide +kernel
theorem kk_tt : kitB "tuple" "tuple" = some true := by decide +kernel
theorem kk_ti : kitB "tuple" "int" = some false := by decide +kernel
theorem kk_ts : kitB "tuple" "str" = some false := by decide +kernel
theorem kk_tl : kitB "tuple" "list" = some false := by decide +kernel
theorem kk_lb : kitB "list" "bool" = some false := by decide +kernel
theorem kk_lt : kitB "list" "tuple" = some false := by decide +kernel
theorem kk_li : kitB "list" "int" = some false := by decide +kernel
theorem kk_ls : kitB "list" "str" = some false := by decide +kernel
theorem kk_ll : kitB "list" "list" = some true := by decide +kernel
theorem len_r {a : Addr} {us : List U} (h : μ a = some (.lst us)) (q : P (.d (.int (us.length : Int))) μ) : qLenA [.r a] μ P := by
  show ∃ u ws, [U.r a] = [u] ∧ itemsU μ u = some ws ∧ P (.d (.int (ws.length : Int))) μ
  refine ⟨_, us, rfl, ?_, q⟩
  simp only [itemsU, h]
theorem isL_r {a : Addr} {us : List U} (h : μ a = some (.lst us)) : isL μ (.r a) := ⟨us, by simp only [listU, h]⟩
theorem add_lst {xs ys : List PyData} (h : xs.length + ys.length ≤ sizeLine) (q : P (.d (.list (xs ++ ys))) μ) : sAdd (.d (.list xs)) (.d (.list ys)) μ P := ⟨xs, ys, rfl, rfl, h, q⟩
theorem append_r {a : Addr} {us : List U} {y : U} (h : μ a = some (.lst us)) (l : us.length < sizeLine) (q : P (.d .none) (put μ a (.lst (us ++ [y])))) : mAppend (.r a) [y] μ P := ⟨a, us, y, rfl, rfl, h, l, q⟩
theorem wipe_nil {ρ : Rho} : wipeR ρ [] = ρ := rfl
theorem max_int : qMax2 [.d (.int i), .d (.int j)] μ P ↔ P (.d (.int (if j > i then j else i))) μ :=
  ⟨fun ⟨_, _, e, h⟩ => by cases e; exact h, fun h => ⟨i, j, rfl, h⟩⟩
end
end L3

/-! enumerate(t), t a list or a tuple -/
namespace PySem
open Sem (wp)
theorem newEnum1 {x : Value} {oI : Obj} {C : Heap → Prop} (Bg : Begins x oI C) :
    Meets (Builtin.«enumerate.__new__» ⟨[.type "enumerate", x], []⟩) (fun _ R s => C s.heap ∧ R (.ok (.ret (.ref (s.heap.push oI).objs.size)))
      { s with heap := (s.heap.push oI).push { cls := .type "enumerate", data := .fields #[.none, .bool false, .ref s.heap.objs.size, rawInt 0, .none, .none] } }) :=
  .of_wp fun prog w A R s hy => by
    obtain ⟨hp, gg, dd, tt, oo⟩ := s
    obtain ⟨hc, fin⟩ := hy
    have sb := sub_enumerate
    have go : ∀ {A' : Around} {E : Value → Shared → Prop} {Q : Value → Shared → Prop}, Q (.ref hp.objs.size) ⟨hp.push oI, gg, dd, tt, oo⟩ → wpAny (model prog w) A' (pyIter x) Q E ⟨hp, gg, dd, tt, oo⟩ :=
      fun y => Bg.iter prog w _ _ ⟨hp, gg, dd, tt, oo⟩ _ hc y
    wp_walk using go
    refine wpAny_stack_any fun _ => wpAny_pure ?_
    split
    · rename_i cl _ _ _ _ _
      cases (cl == Value.type "enumerate") <;> (wp_walk using go; exact ⟨_, rfl, fin⟩)
    · wp_walk using go
      exact ⟨_, rfl, fin⟩
theorem enum1_begins {prog : Program} {w : World} {A : Around} {E : Value → Shared → Prop} {s : Shared} {x : Value} {oI : Obj} {C : Heap → Prop} {Q : Value → Shared → Prop} (Bg : Begins x oI C) (hc : C s.heap)
    (fin : ∀ h', IsEnum h' (s.heap.objs.size + 1) s.heap.objs.size 0 .none → h'.get? s.heap.objs.size = some oI → (∀ b u, s.heap.get? b = some u → h'.get? b = some u) → Q (.ref (s.heap.objs.size + 1)) { s with heap := h' }) :
    wpAny (model prog w) A (call (.type "enumerate") [x]) Q E s := by
  refine callType_new F.called_enumerate (by decide) (F.typeCall_enumerate_1 _) (F.newCall_enumerate_1 _) (fun ob => F.args_object_init_2 ob _) F.entry_enumerate_new (newEnum1 Bg) ⟨hc, ?_⟩
  have z1 : (s.heap.push oI).objs.size = s.heap.objs.size + 1 := Heap.size_push ..
  show _ ∧ _
  rw [z1]
  have en : IsEnum ((s.heap.push oI).push { cls := .type "enumerate", data := .fields #[.none, .bool false, .ref s.heap.objs.size, rawInt 0, .none, .none] }) (s.heap.objs.size + 1) s.heap.objs.size 0 .none := by
    have e := Heap.get?_push_size (s.heap.push oI) (o := { cls := .type "enumerate", data := .fields #[.none, .bool false, .ref s.heap.objs.size, rawInt 0, .none, .none] }) rfl
    rw [z1] at e
    exact e
  exact ⟨⟨_, en, rfl⟩, fin _ en (Heap.get?_push_of_some _ (Heap.get?_push_size _ Bg.free)) fun b u y => Heap.get?_push_of_some _ (Heap.get?_push_of_some _ y)⟩
end PySem
namespace L3
open PySem PySem.Spec PyProof.Rows L2
def IteT (K : Fg) (a : Addr) : It :=
  ⟨fun i H => ∃ (xs : List V) (x : V), SqT K H a xs ∧ xs[i]? = some x, fun i H v H' => ∃ T o x, v = .ref T ∧ H T = none ∧ TObj o ∧ H' = upd H T (.frz o (.tup [.int (i : Nat), x])) ∧ ∀ xs, SqT K H a xs → xs[i]? = some x, fun i H => ∃ xs : List V, SqT K H a xs ∧ xs.length ≤ i⟩
theorem turn_enumT {P : Program} {w : World} {K : Fg} {elts : List Expr} {kk : Nat} {tpos : Pos} (a e it : Addr) :
    Turn P w K (.Tuple elts kk tpos) (IteT K a) [e, it] e (fun i h => (∃ old, IsEnum h e it ((i : Nat) : Int) old) ∧ h.IsTupleIter it a i ∧ e ≠ it ∧ e ≠ a ∧ it ≠ a) where
  mem := by simp
  obj := fun i h st b hb => by
    obtain ⟨⟨old, en⟩, ⟨o, ho, _, hd⟩, _⟩ := st
    have cs : b = e ∨ b = it := by simpa using hb
    rcases cs with rfl | rfl
    · exact ⟨_, en, fun v q => nomatch q⟩
    · exact ⟨o, ho, fun v q => by rw [hd] at q; cases q⟩
  keep := fun i h h' st k => let ⟨⟨old, en⟩, hi, r⟩ := st; ⟨⟨old, k e (by simp) _ en⟩, hi.at fun o q => k it (by simp) o q, r⟩
  item := by
    intro X hP hw hK hc i pins s σ H E I hf st hg
    subst hP hw hK
    obtain ⟨⟨old, en⟩, hit, ne, na, ni⟩ := st
    obtain ⟨xs, x, hq, hx⟩ := hg
    obtain ⟨us, rv, p, _⟩ := I.tuple hq
    have p' : s.heap.IsTuple a us.toArray := p
    obtain ⟨u, hu, ru⟩ := rv.get hx
    have le : e < s.heap.objs.size := Heap.lt_size en
    have li : it < s.heap.objs.size := by obtain ⟨_, q, _⟩ := hit; exact Heap.lt_size q
    have hh := I.ok.hd hc
    have lt : i < us.toArray.size := by
      have := (List.getElem?_eq_some_iff.mp hu).1
      simpa using this
    refine wpAny_pyNext_enum_itemD (Draws.tuple (show X.A.in1.handled = none from hh) it a (Ne.symm ni) us.toArray) en ⟨hit, p'⟩ lt ne (by simp [ne, na]) fun x' h' tk px ho hs hT hz hk => ?_
    have ex : x' = u := by
      have e1 : us.toArray[i]? = some u := by simpa using hu
      rw [e1] at px
      exact (Option.some.inj px).symm
    subst ex
    refine ⟨_, rfl, wpAny_letOwnedTupleGo_enum (s := { s with heap := h', toks := tk + 1 }) ho fun h2 en2 sb => ?_⟩
    have hT2 : h2.get? s.heap.objs.size = some { cls := .type "tuple", data := .seq #[.int i tk, x'] } := (sb.2 _ (Nat.ne_of_gt le)).trans hT
    let ob : Obj := { cls := .type "tuple", data := .seq #[.int i tk, x'] }
    have nw : ObjOk X.prog X.w (upd H s.heap.objs.size (.frz ob (.tup [.int (i : Nat), x]))) h2 s.heap.objs.size (.frz ob (.tup [.int (i : Nat), x])) :=
      ⟨hT2, by show 2 ≤ sizeLine; decide, [.int i tk, x'], .cons ⟨_, rfl⟩ (.cons ru .nil), ⟨_, hT2, rfl, _, rfl⟩⟩
    have I1 : Inv X pins σ (upd H s.heap.objs.size (.frz ob (.tup [.int (i : Nat), x]))) { s with heap := h2, toks := tk + 1 } :=
      I.turnedNew (ch := [e, it]) (fun b ob hb q => (sb.2 b (fun z => hb (by simp [z]))).trans (hk b ob (fun z => hb (by simp [z])) (fun z => hb (by simp [z])) q)) hf (Nat.le_refl _) nw
    refine ⟨.ref s.heap.objs.size, _, I1, rfl, ⟨_, ob, x, rfl, I.hok.fresh (Nat.le_refl _), ⟨rfl, rfl⟩, rfl, fun ys hy => by rw [I.tuple_inj hy hq]; exact hx⟩, ⟨⟨x', ?_⟩, hs.1.at fun o q => (sb.2 it (Ne.symm ne)).trans q, ne, na, ni⟩, fun b hb => ?_⟩
    · have e1 : ((i + 1 : Nat) : Int) = (i : Int) + 1 := by omega
      rw [e1]; exact en2
    · have lb : b < s.heap.objs.size := by
        have cs : b = e ∨ b = it := by simpa using hb
        rcases cs with rfl | rfl
        · exact le
        · exact li
      rw [upd_ne (Nat.ne_of_lt lb)]
      exact (hf b hb).1
  done := by
    intro X hP hw hK hc i pins s σ H E I hf st hg
    subst hP hw hK
    obtain ⟨⟨old, en⟩, hit, ne, na, ni⟩ := st
    obtain ⟨xs, hq, hx⟩ := hg
    obtain ⟨us, rv, p, _⟩ := I.tuple hq
    have p' : s.heap.IsTuple a us.toArray := p
    have hl := rv.length
    have hh := I.ok.hd hc
    have hn : us.toArray[i]? = none := by simp; omega
    obtain ⟨f0, f1, f2, f3, f4, f5⟩ := hf it (by simp)
    have hT : s.TypeIs (.ref e) "enumerate" := ⟨_, en, rfl⟩
    unfold pyNext
    refine wpAny_bind (wpAny_attempt (wpAny_callSpecial?_slot (name := Str.ofString "__next__") hT F.slot_enumerate_next
      (wpAny_call_entry F.slot_enumerate_next hT F.entry_enumerate_next ?_ (F.args_enumerate_next_1 _))))
    show wpAny _ _ (field (.ref e) 2 >>= _) _ _ _
    refine wpAny_bind (wpAny_field en rfl (x := .ref it) rfl ?_)
    refine wpAny_bind (wpAny_nextOf_tuple_end (show X.A.in1.handled = none from hh) hit p' hn fun h' er eb ix => ?_)
    obtain ⟨oe, ho, ce⟩ := ix
    refine wpAny_bind (wpAny_isInstance (T := "StopIteration") (b := true) ⟨oe, ho, ce⟩ isSubtype_stop ?_)
    exact wpAny_pure ⟨rfl, I.turned (t' := s.toks) (fun b o hb q => eb b o hb q) f0 f1 f3 f4 f5⟩
  self := fun A i s Q E st h => let ⟨⟨_, en⟩, _⟩ := st; wpAny_pyIter_enum en h
def IteL (K : Fg) (a : Addr) : It :=
  ⟨fun i H => ∃ (xs : List V) (x : V), SqL K H a xs ∧ xs[i]? = some x, fun i H v H' => ∃ T o x, v = .ref T ∧ H T = none ∧ TObj o ∧ H' = upd H T (.frz o (.tup [.int (i : Nat), x])) ∧ ∀ xs, SqL K H a xs → xs[i]? = some x, fun i H => ∃ xs : List V, SqL K H a xs ∧ xs.length ≤ i⟩
theorem turn_enumL {P : Program} {w : World} {K : Fg} {elts : List Expr} {kk : Nat} {tpos : Pos} (a e it : Addr) :
    Turn P w K (.Tuple elts kk tpos) (IteL K a) [e, it] e (fun i h => (∃ old, IsEnum h e it ((i : Nat) : Int) old) ∧ h.IsListIter it a i ∧ e ≠ it ∧ e ≠ a ∧ it ≠ a) where
  mem := by simp
  obj := fun i h st b hb => by
    obtain ⟨⟨old, en⟩, ⟨o, ho, _, hd⟩, _⟩ := st
    have cs : b = e ∨ b = it := by simpa using hb
    rcases cs with rfl | rfl
    · exact ⟨_, en, fun v q => nomatch q⟩
    · exact ⟨o, ho, fun v q => by rw [hd] at q; cases q⟩
  keep := fun i h h' st k => let ⟨⟨old, en⟩, hi, r⟩ := st; ⟨⟨old, k e (by simp) _ en⟩, hi.at fun o q => k it (by simp) o q, r⟩
  item := by
    intro X hP hw hK hc i pins s σ H E I hf st hg
    subst hP hw hK
    obtain ⟨⟨old, en⟩, hit, ne, na, ni⟩ := st
    obtain ⟨xs, x, hq, hx⟩ := hg
    obtain ⟨us, rv, p, _⟩ := I.list hq
    have p' : s.heap.IsList a us.toArray := p.isList
    obtain ⟨u, hu, ru⟩ := rv.get hx
    have le : e < s.heap.objs.size := Heap.lt_size en
    have li : it < s.heap.objs.size := by obtain ⟨_, q, _⟩ := hit; exact Heap.lt_size q
    have hh := I.ok.hd hc
    have lt : i < us.toArray.size := by
      have := (List.getElem?_eq_some_iff.mp hu).1
      simpa using this
    refine wpAny_pyNext_enum_itemD (Draws.list (show X.A.in1.handled = none from hh) it a (Ne.symm ni) us.toArray) en ⟨hit, p'⟩ lt ne (by simp [ne, na]) fun x' h' tk px ho hs hT hz hk => ?_
    have ex : x' = u := by
      have e1 : us.toArray[i]? = some u := by simpa using hu
      rw [e1] at px
      exact (Option.some.inj px).symm
    subst ex
    refine ⟨_, rfl, wpAny_letOwnedTupleGo_enum (s := { s with heap := h', toks := tk + 1 }) ho fun h2 en2 sb => ?_⟩
    have hT2 : h2.get? s.heap.objs.size = some { cls := .type "tuple", data := .seq #[.int i tk, x'] } := (sb.2 _ (Nat.ne_of_gt le)).trans hT
    let ob : Obj := { cls := .type "tuple", data := .seq #[.int i tk, x'] }
    have nw : ObjOk X.prog X.w (upd H s.heap.objs.size (.frz ob (.tup [.int (i : Nat), x]))) h2 s.heap.objs.size (.frz ob (.tup [.int (i : Nat), x])) :=
      ⟨hT2, by show 2 ≤ sizeLine; decide, [.int i tk, x'], .cons ⟨_, rfl⟩ (.cons ru .nil), ⟨_, hT2, rfl, _, rfl⟩⟩
    have I1 : Inv X pins σ (upd H s.heap.objs.size (.frz ob (.tup [.int (i : Nat), x]))) { s with heap := h2, toks := tk + 1 } :=
      I.turnedNew (ch := [e, it]) (fun b ob hb q => (sb.2 b (fun z => hb (by simp [z]))).trans (hk b ob (fun z => hb (by simp [z])) (fun z => hb (by simp [z])) q)) hf (Nat.le_refl _) nw
    refine ⟨.ref s.heap.objs.size, _, I1, rfl, ⟨_, ob, x, rfl, I.hok.fresh (Nat.le_refl _), ⟨rfl, rfl⟩, rfl, fun ys hy => by rw [I.list_inj hy hq]; exact hx⟩, ⟨⟨x', ?_⟩, hs.1.at fun o q => (sb.2 it (Ne.symm ne)).trans q, ne, na, ni⟩, fun b hb => ?_⟩
    · have e1 : ((i + 1 : Nat) : Int) = (i : Int) + 1 := by omega
      rw [e1]; exact en2
    · have lb : b < s.heap.objs.size := by
        have cs : b = e ∨ b = it := by simpa using hb
        rcases cs with rfl | rfl
        · exact le
        · exact li
      rw [upd_ne (Nat.ne_of_lt lb)]
      exact (hf b hb).1
  done := by
    intro X hP hw hK hc i pins s σ H E I hf st hg
    subst hP hw hK
    obtain ⟨⟨old, en⟩, hit, ne, na, ni⟩ := st
    obtain ⟨xs, hq, hx⟩ := hg
    obtain ⟨us, rv, p, _⟩ := I.list hq
    have p' : s.heap.IsList a us.toArray := p.isList
    have hl := rv.length
    have hh := I.ok.hd hc
    have hn : us.toArray[i]? = none := by simp; omega
    obtain ⟨f0, f1, f2, f3, f4, f5⟩ := hf it (by simp)
    have hT : s.TypeIs (.ref e) "enumerate" := ⟨_, en, rfl⟩
    unfold pyNext
    refine wpAny_bind (wpAny_attempt (wpAny_callSpecial?_slot (name := Str.ofString "__next__") hT F.slot_enumerate_next
      (wpAny_call_entry F.slot_enumerate_next hT F.entry_enumerate_next ?_ (F.args_enumerate_next_1 _))))
    show wpAny _ _ (field (.ref e) 2 >>= _) _ _ _
    refine wpAny_bind (wpAny_field en rfl (x := .ref it) rfl ?_)
    refine wpAny_bind (wpAny_nextOf_list_end (show X.A.in1.handled = none from hh) hit p' hn fun h' er eb ix => ?_)
    obtain ⟨oe, ho, ce⟩ := ix
    refine wpAny_bind (wpAny_isInstance (T := "StopIteration") (b := true) ⟨oe, ho, ce⟩ isSubtype_stop ?_)
    exact wpAny_pure ⟨rfl, I.turned (t' := s.toks) (fun b o hb q => eb b o hb q) f0 f1 f3 f4 f5⟩
  self := fun A i s Q E st h => let ⟨⟨_, en⟩, _⟩ := st; wpAny_pyIter_enum en h
def iEnumA (K : Fg) (ta : TA) : TI := fun σ H R => ta σ H fun vs H1 => ∃ a xs, vs = [.ref a] ∧ ((SqL K H1 a xs ∧ R (IteL K a) H1) ∨ (SqT K H1 a xs ∧ R (IteT K a) H1))
theorem pi_enumA {X : Cx} {e : Expr} {ta : TA} {p pos tpos : Pos} {elts : List Expr} {kk : Nat} (hg : Gl X "enumerate") (hm : X.mg "enumerate" = none) (ha : PA X [e] ta) (hs : starEach [e] X.env = [(false, eval e X.env)] := by rfl) :
    PI X (.Tuple elts kk tpos) (.Call (.Name "enumerate" p) [e] [] pos) (iEnumA X.K ta) := by
  refine ⟨fun pins s σ H R I h => ?_⟩
  refine Call_ (ld_blt I hg hm boot_enumerate (PyProof.Rows.callWith_type1 (thn (ha.run pos pins s σ H _ I h) fun us s1 ⟨vs, H1, I1, r1, q1⟩ => ?_) hs rfl))
  obtain ⟨a, xs, ex, q1⟩ := q1
  subst ex
  cases r1 with
  | cons r rr =>
    cases rr
    cases r
    have fp : ∀ b ∈ [s1.heap.objs.size + 1, s1.heap.objs.size], FpOk X pins H1 b := fun b hb => by
      have cs : b = s1.heap.objs.size + 1 ∨ b = s1.heap.objs.size := by simpa using hb
      have hle : s1.heap.objs.size ≤ b := by rcases cs with z | z <;> omega
      exact I1.fpOk hle (I1.hok.fresh hle)
    rcases q1 with ⟨hq, q⟩ | ⟨hq, q⟩
    · obtain ⟨its, rv, p', hz⟩ := I1.list hq
      have p2 : s1.heap.IsList a its.toArray := p'.isList
      obtain ⟨o1, ho1, _⟩ := id p2
      have la := Heap.lt_size ho1
      refine enum1_begins (begins_list a its.toArray) p2 fun h' he hi hk => wpAny_pyIter_enum he ?_
      exact ⟨s1.heap.objs.size + 1, [s1.heap.objs.size + 1, s1.heap.objs.size], _, _, H1, rfl, I1.kept (t' := s1.toks) hk, turn_enumL a (s1.heap.objs.size + 1) s1.heap.objs.size, ⟨⟨.none, he⟩, ⟨_, hi, rfl, rfl⟩, Nat.succ_ne_self _, Nat.ne_of_gt (Nat.lt_succ_of_lt la), Nat.ne_of_gt la⟩, fp, q⟩
    · obtain ⟨its, rv, p', hz⟩ := I1.tuple hq
      have p2 : s1.heap.IsTuple a its.toArray := p'
      obtain ⟨o1, ho1, _⟩ := id p2
      have la := Heap.lt_size ho1
      refine enum1_begins (begins_tuple a its.toArray) p2 fun h' he hi hk => wpAny_pyIter_enum he ?_
      exact ⟨s1.heap.objs.size + 1, [s1.heap.objs.size + 1, s1.heap.objs.size], _, _, H1, rfl, I1.kept (t' := s1.toks) hk, turn_enumT a (s1.heap.objs.size + 1) s1.heap.objs.size, ⟨⟨.none, he⟩, ⟨_, hi, rfl, rfl⟩, Nat.succ_ne_self _, Nat.ne_of_gt (Nat.lt_succ_of_lt la), Nat.ne_of_gt la⟩, fp, q⟩
def jEnumA (w : WL) : WIt := fun ρ μ P => w ρ μ fun us μ1 => ∃ u ds, us = [u] ∧ itemsU μ1 u = some (ds.map U.d) ∧ P ((enumD ds).map U.d) (fun μ2 => itemsU μ2 u = some (ds.map U.d)) μ1
section
variable {K : Fg} {X : Cx} {tg e e2 : Expr} {te : TE} {we : WX} {ta : TA} {wa : WL} {p pos tpos : Pos} {elts : List Expr} {kk : Nat}
theorem enumD_at {ds : List PyData} {i : Nat} {z : U} (hz : ((enumD ds).map U.d)[i]? = some z) : ∃ hi : i < ds.length, z = .d (.tuple [.int (i : Int), ds[i]]) := by
  have le : ((enumD ds).map U.d).length = ds.length := by simp [enumD]
  have hi : i < ds.length := by
    have := (List.getElem?_eq_some_iff.mp hz).1
    rw [le] at this
    exact this
  have hz' : ((enumD ds).map U.d)[i]? = some (U.d (.tuple [.int (i : Int), ds[i]])) := by simp [enumD, hi]
  rw [hz'] at hz
  exact ⟨hi, (Option.some.inj hz).symm⟩
theorem ri_enumA (h : RA K ta wa) : RI K (iEnumA K ta) (jEnumA wa) := fun F G H μ σ ρ P R S w q => h F G H μ σ ρ _ _ S w fun vs us G1 H1 μ1 e1 S1 r1 ⟨u, ds, e, hl, p⟩ => by
  subst e
  obtain ⟨v, rfl, q1⟩ := rus1 r1
  have le : ((enumD ds).map U.d).length = ds.length := by simp [enumD]
  by_cases ht : ∃ l, u = .d (.tuple l)
  · obtain ⟨l, rfl⟩ := ht
    have el : l = ds := mdp (Option.some.inj hl)
    subst el
    obtain ⟨a, xs, rfl, h1, h2⟩ := rp_tup q1
    refine ⟨a, xs, rfl, .inr ⟨h1.sq S1.sub, q _ ((enumD l).map U.d) _ G1 H1 μ1 e1 S1 ?_ p⟩⟩
    intro F2 G2 H2 μ2 e2 S2 al i
    have k1 : SqT K H2 a xs := (h1.mono e2).sq S2.sub
    have k3 : Rps K G2 xs l := h2.mono e2
    have ly := k3.length
    refine ⟨fun hle => ⟨xs, k1, by rw [ly, ← le]; exact hle⟩, fun z hz => ?_⟩
    obtain ⟨hi, ez⟩ := enumD_at hz
    subst ez
    have hy : i < xs.length := by omega
    refine ⟨⟨xs, xs[i], k1, List.getElem?_eq_getElem hy⟩, fun x H' yl => ?_⟩
    obtain ⟨T, ob, y, ex, hT, to, eH, hall⟩ := yl
    subst ex eH
    have ey := hall xs k1
    obtain ⟨y', h5, r5⟩ := (rus_d k3).getU (i := i) (u := .d l[i]) (by simp [hi])
    rw [ey] at h5
    cases h5
    obtain ⟨e3, S3⟩ := S2.newG (o := .frz ob (.tup [.int (i : Nat), y])) hT
    exact ⟨_, e3, S3, Rp.tup (.new to) (.cons (.int _) (.cons (Rp.mono e3 r5) .nil))⟩
  · have same : ∀ m : Mu, itemsU m u = listU m u := fun m => by
      cases u with
      | d x => cases x <;> first | rfl | exact absurd ⟨_, rfl⟩ ht
      | r a => rfl
    rw [same] at hl
    obtain ⟨a, xs, rfl, h1, h2⟩ := listU_ok S1 q1 hl
    refine ⟨a, xs, rfl, .inl ⟨h1, q _ ((enumD ds).map U.d) _ G1 H1 μ1 e1 S1 ?_ p⟩⟩
    intro F2 G2 H2 μ2 e2 S2 al i
    rw [same] at al
    obtain ⟨a', ys, ea, k1, k2⟩ := listU_ok S2 (q1.mono e2) al
    cases ea
    have k3 : Rps K G2 ys ds := d_rus k2
    have ly := k3.length
    refine ⟨fun hle => ⟨ys, k1, by rw [ly, ← le]; exact hle⟩, fun z hz => ?_⟩
    obtain ⟨hi, ez⟩ := enumD_at hz
    subst ez
    have hy : i < ys.length := by omega
    refine ⟨⟨ys, ys[i], k1, List.getElem?_eq_getElem hy⟩, fun x H' yl => ?_⟩
    obtain ⟨T, ob, y, ex, hT, to, eH, hall⟩ := yl
    subst ex eH
    have ey := hall ys k1
    obtain ⟨y', h5, r5⟩ := k2.getU (i := i) (u := .d ds[i]) (by simp [hi])
    rw [ey] at h5
    cases h5
    obtain ⟨e3, S3⟩ := S2.newG (o := .frz ob (.tup [.int (i : Nat), y])) hT
    exact ⟨_, e3, S3, Rp.tup (.new to) (.cons (.int _) (.cons (Rp.mono e3 r5) .nil))⟩
theorem w_enumA (hg : Gl X "enumerate") (hm : X.mg "enumerate" = none) (ha : WAr X [e] ta wa) (hs : starEach [e] X.env = [(false, eval e X.env)] := by rfl) : WI X (.Tuple elts kk tpos) (.Call (.Name "enumerate" p) [e] [] pos) (iEnumA X.K ta) (jEnumA wa) := ⟨pi_enumA hg hm ha.pa hs, ri_enumA ha.ra⟩
abbrev jEnum (w : WL) : WIt := jEnumA w
theorem w_enum (hg : Gl X "enumerate") (hm : X.mg "enumerate" = none) (ha : WAr X [e] ta wa) (hs : starEach [e] X.env = [(false, eval e X.env)] := by rfl) : WI X (.Tuple elts kk tpos) (.Call (.Name "enumerate" p) [e] [] pos) (iEnumA X.K ta) (jEnum wa) := w_enumA hg hm ha hs
end
end L3

/-! xs[::-1] of a list or a tuple -/
namespace L2
open PySem PySem.Spec PyProof.Rows
theorem rev_idx (n : Nat) : sliceRange ((n : Int) - 1) (-1) (-1) = (List.range n).map fun k => n - 1 - k := by
  have h := picked_rev n
  unfold Builtin.Str.strSliceIndices at h
  simpa using h
theorem rev_pick (xs : Array Value) : ((List.range xs.size).map fun k => xs.size - 1 - k).filterMap (xs[·]?) = xs.toList.reverse := by
  rw [List.filterMap_map]
  have e : ∀ k ∈ List.range xs.size, ((fun x => xs[x]?) ∘ fun k => xs.size - 1 - k) k = some (xs.toList.reverse.getD k .none) := fun k hk => by
    have hk := List.mem_range.mp hk
    have h1 : xs.size - 1 - k < xs.size := by omega
    show xs[xs.size - 1 - k]? = _
    rw [Array.getElem?_eq_getElem h1, List.getD_eq_getElem?_getD, List.getElem?_reverse (by simpa using hk)]
    simp [h1]
  have f : ∀ (l : List Nat) (g : Nat → Option Value) (f : Nat → Value), (∀ k ∈ l, g k = some (f k)) → l.filterMap g = l.map f := fun l => by
    induction l with
    | nil => intro g f h; rfl
    | cons a l ih =>
      intro g f h
      rw [List.filterMap_cons, h a (by simp), List.map_cons, ih g f fun k hk => h k (List.mem_cons_of_mem _ hk)]
  rw [f _ _ _ e]
  refine List.ext_getElem (by simp) fun j h1 h2 => ?_
  have hj : j < xs.toList.reverse.length := h2
  rw [List.getElem_map, List.getElem_range, List.getD_eq_getElem?_getD, List.getElem?_eq_getElem hj]
  rfl
theorem vals_app : ∀ {xs ys : List V} {us vs : List Value}, Vals xs us → Vals ys vs → Vals (xs ++ ys) (us ++ vs)
  | _, _, _, _, .nil, h => h
  | _ :: _, _, _ :: _, _, .cons r t, h => .cons r (vals_app t h)
theorem vals_rev : ∀ {xs : List V} {us : List Value}, Vals xs us → Vals xs.reverse us.reverse
  | _, _, .nil => .nil
  | _ :: _, _ :: _, .cons r t => by rw [List.reverse_cons, List.reverse_cons]; exact vals_app (vals_rev t) (.cons r .nil)
theorem rev_list (xs : Array Value) : slicePick xs none none (some (-1)) = xs.toList.reverse.toArray := by
  unfold slicePick
  have e : sliceBounds none none (some (-1)) xs.size = ((xs.size : Int) - 1, -1, -1) := by simp [sliceBounds]
  rw [e]
  show ((sliceRange ((xs.size : Int) - 1) (-1) (-1)).filterMap (xs[·]?)).toArray = _
  rw [rev_idx, rev_pick]
section
variable {prog : Program} {w : World} {A : Around} {E : Value → Shared → Prop} {s : Shared}
theorem rev_applied {sl : Addr} {n : Nat} {t : Tok} {Q : Int × Int × Nat → Shared → Prop} (hs : s.heap.IsSliceOf sl .none .none (.int (-1) t))
    (h : Q ((n : Int) - 1, -1, n) s) : wpAny (model prog w) A (Builtin.Slice.sliceApplied (.ref sl) (pure (n : Int))) Q E s := by
  obtain ⟨os, hos, hcs, hds⟩ := id hs
  unfold Builtin.Slice.sliceApplied Builtin.Slice.sliceFields
  refine wpAny_bind (wpAny_bind (wpAny_field hos hds (x := .none) rfl (wpAny_bind (wpAny_field hos hds (x := .none) rfl (wpAny_bind (wpAny_field hos hds (x := .int (-1) t) rfl (wpAny_pure ?_)))))))
  refine wpAny_bind (HT.slicePart_ (.int (-1) t) ?_)
  show wpAny _ _ (if ((-1 : Int) == 0) = true then _ else _) _ _ s
  rw [if_neg (by decide)]
  refine wpAny_bind (HT.slicePart_ .none (wpAny_bind (HT.slicePart_ .none (wpAny_bind (wpAny_pure ?_)))))
  show wpAny _ _ (match Builtin.Slice.sliceAdjust none none (-1) (n : Int) with | (lo, hi) => pure (lo, (-1 : Int), Builtin.Slice.slicePlaces lo hi (-1))) _ _ s
  have e : Builtin.Slice.sliceAdjust none none (-1) (n : Int) = ((n : Int) - 1, -1) := by simp [Builtin.Slice.sliceAdjust]
  rw [e]
  have p : Builtin.Slice.slicePlaces ((n : Int) - 1) (-1) (-1) = n := by
    unfold Builtin.Slice.slicePlaces
    have h0 : ¬ ((-1 : Int) > 0) := by decide
    simp only [h0, if_false]
    have e2 : (-(-1 : Int)) = 1 := by decide
    rw [e2, Int.ediv_one]
    split <;> omega
  show wpAny _ _ (pure ((n : Int) - 1, (-1 : Int), Builtin.Slice.slicePlaces ((n : Int) - 1) (-1) (-1))) _ _ s
  rw [p]
  exact wpAny_pure h
theorem getItem_tuple_rev {t sl : Addr} {tk : Tok} {items : Array Value} {Q : Value → Shared → Prop} (ht : IsTup s.heap t items) (hs : s.heap.IsSliceOf sl .none .none (.int (-1) tk))
    (h : Q (.ref s.heap.objs.size) { s with heap := s.heap.push { cls := .type "tuple", data := .seq items.toList.reverse.toArray } })
    (hsz : items.size ≤ sizeLine) : wpAny (model prog w) A (getItem (.ref t) (.ref sl)) Q E s := by
  have htake : sizeOk (.seq items.toList.reverse.toArray) := by
    show items.toList.reverse.toArray.size ≤ sizeLine
    rw [List.size_toArray, List.length_reverse, Array.length_toList]
    exact hsz
  obtain ⟨os, hos, hcs, hds⟩ := id hs
  have hTs : s.TypeIs (.ref sl) "slice" := ⟨os, hos, hcs⟩
  unfold getItem
  try with_reducible refine wpAny_holding ?_
  first | refine wpAny_bind (wpAny_pure ?_) | skip
  refine wpAny_bind (wpAny_sequenceKey ht.typeIs (by decide) ?_)
  refine wpAny_bind (wpAny_callSpecial?_slot (name := Str.ofString "__getitem__") ht.typeIs PyProof.Rows.slot_tuple_getitem
    (wpAny_call_entry PyProof.Rows.slot_tuple_getitem ht.typeIs entry_tuple_getitem ?_ (args_tuple_getitem _ _)))
  show wpAny _ _ (Builtin.Tuple.tupleItemsOf (.ref t) >>= _) _ _ s
  refine wpAny_bind (tupleItemsOf_ ht ?_)
  refine wpAny_bind (wpAny_typeOf hTs ?_)
  rw [if_pos (by decide)]
  refine wpAny_bind (rev_applied hs ?_)
  have hno : ¬ ((((items.size : Int) - 1) == 0 && (-1 : Int) == 1 && items.size == items.size) = true) := by
    intro q
    rw [Bool.and_eq_true, Bool.and_eq_true] at q
    exact absurd q.1.2 (by decide)
  show wpAny _ _ (if ((((items.size : Int) - 1) == 0 && (-1 : Int) == 1 && items.size == items.size)) = true then _ else _) _ _ s
  have pk : ((List.range items.size).filterMap fun (m : Nat) => items[(((items.size : Int) - 1) + (m : Int) * (-1)).toNat]?).toArray = items.toList.reverse.toArray := by
    rw [← rev_pick, List.filterMap_map]
    congr 2
    funext m
    show items[_]? = items[items.size - 1 - m]?
    congr 1
    omega
  rw [if_neg hno, pk]
  first
    | exact wpAny_bind (m := Builtin.Tuple.tupleExact _) (wpAny_newObj_type (wpAny_pure ⟨_, rfl, wpAny_pure h⟩) htake)
    | exact wpAny_bind (m := Builtin.Tuple.tupleExact _) (wpAny_newObj_type (wpAny_bind (wpAny_pure (wpAny_pure ⟨_, rfl, wpAny_pure h⟩))) htake)
    | exact wpAny_bind (wpAny_bind (m := Builtin.Tuple.tupleExact _) (wpAny_newObj_type (wpAny_pure (wpAny_pure ⟨_, rfl, wpAny_pure h⟩)) htake))
    | exact wpAny_bind (wpAny_bind (m := Builtin.Tuple.tupleExact _) (wpAny_newObj_type (wpAny_pure ⟨_, rfl, wpAny_pure h⟩) htake))
end
def tRevS (K : PySem.W.Frag) (te ts : TE) : TE := fun σ H Q => te σ H fun x H1 => ts σ H1 fun y H2 => y = .int (-1) ∧ ∃ a xs, x = .ref a ∧ ((SqL K H2 a xs ∧ ∀ p, H2 p = none → Q (.ref p) (upd H2 p (.lst xs.reverse))) ∨ (SqT K H2 a xs ∧ ∀ p o, H2 p = none → L3.TObj o → Q (.ref p) (upd H2 p (.frz o (.tup xs.reverse)))))
theorem pe_rev {X : Cx} {e st : Expr} {te ts : TE} {p2 pos : Pos} (he : PE X e te) (hst : PE X st ts) : PE X (.Subscript e (.Slice none none (some st) p2) pos) (tRevS X.K te ts) := by
  refine ⟨fun pins s σ H Q I h => ?_⟩
  refine Subscript_ (thn (he.run pins s σ H _ I h) fun v s1 ⟨x, H1, I1, r1, q1⟩ => ?_)
  refine wpAny_Slice ?_
  rw [evalPart_none]
  refine wpAny_pure (wpAny_pure ?_)
  rw [evalPart_some]
  refine thn (hst.run pins s1 σ H1 _ I1 q1) fun vs s3 ⟨y, H2, I3, r3, ey, a, xs, ex, q2⟩ => ?_
  subst ey ex
  obtain ⟨tk, rfl⟩ := r3
  cases r1
  have I4 : Inv X pins σ H2 { s3 with heap := s3.heap.push { cls := .type "slice", data := .fields #[.none, .none, .int (-1) tk] } } := I3.kept (t' := s3.toks) fun b ob q => Heap.get?_push_of_some _ q
  have hs := Heap.IsSliceOf.new s3.heap .none .none (.int (-1) tk)
  have go : ∀ T id, typeLookup (.type T) "__getitem__" = pure (some (.builtin id)) → Shared.TypeIs { s3 with heap := s3.heap.push { cls := .type "slice", data := .fields #[.none, .none, .int (-1) tk] } } (.ref a) T →
      wpAny (model X.prog X.w) X.A (getItem (.ref a) (.ref s3.heap.objs.size)) (EP X pins σ Q) X.xe { s3 with heap := s3.heap.push { cls := .type "slice", data := .fields #[.none, .none, .int (-1) tk] } } →
      wpAny (model X.prog X.w) X.A (subscriptTail e (.Slice none none (some st) p2) (.ref a) (.ref s3.heap.objs.size)) (EP X pins σ Q) X.xe { s3 with heap := s3.heap.push { cls := .type "slice", data := .fields #[.none, .none, .int (-1) tk] } } := fun T id ht hT hg =>
    tail_any (ops := [.ref a, .ref s3.heap.objs.size]) hT ht hg (by with_unfolding_all rfl)
  rcases q2 with ⟨hx, q⟩ | ⟨hx, q⟩
  · obtain ⟨its, r, ht, hz⟩ := I4.list hx
    refine go "list" _ slot_list_getitem.lookup ht.isList.typeIs ?_
    refine wpAny_getItem_list_slice ht.isList hs .none .none (.int (-1) tk) (by decide) ?_ (by have := r.length; rw [List.size_toArray]; omega)
    rw [rev_list]
    refine ⟨.ref (s3.heap.push { cls := .type "slice", data := .fields #[.none, .none, .int (-1) tk] }).objs.size, _, I4.laid (t' := s3.toks) (o := .lst xs.reverse) (fun b ob q => Heap.get?_push_of_some _ q) (Nat.le_refl _) ?_, rfl, q _ (I4.hok.fresh (Nat.le_refl _))⟩
    exact ⟨by rw [List.length_reverse]; exact hz, its.toArray.toList.reverse, 0, vals_rev (by simpa using r), Heap.get?_push_size _ rfl⟩
  · obtain ⟨its, r, ht, hz⟩ := I4.tuple hx
    refine go "tuple" _ PyProof.Rows.slot_tuple_getitem.lookup ht.typeIs ?_
    refine getItem_tuple_rev ht hs ?_ (by have := r.length; rw [List.size_toArray]; omega)
    refine ⟨.ref (s3.heap.push { cls := .type "slice", data := .fields #[.none, .none, .int (-1) tk] }).objs.size, _, L3.tupNew I4 (its := its.toArray.toList.reverse) (vals_rev (by simpa using r)) (by rw [List.length_reverse]; exact hz), rfl, q _ _ (I4.hok.fresh (Nat.le_refl _)) (L3.tOb_ok _)⟩
end L2
namespace L3
open PySem PySem.Spec PyProof.Rows L2
/-- x[::-1] of a datum or of a list that may change: a new frozen one -/
def wRevS (we ws : WX) : WX := fun ρ μ P => we ρ μ fun u μ1 => ws ρ μ1 fun v μ2 => v = .d (.int (-1)) ∧ ((∃ ds : List PyData, listU μ2 u = some (ds.map U.d) ∧ P (.d (.list ds.reverse)) μ2) ∨ ∃ ds : List PyData, u = .d (.tuple ds) ∧ P (.d (.tuple ds.reverse)) μ2)
theorem rps_app {K : Fg} {G : Hp} : ∀ {xs ys : List V} {ds es : List PyData}, Rps K G xs ds → Rps K G ys es → Rps K G (xs ++ ys) (ds ++ es)
  | _, _, _, _, .nil, h => h
  | _, _, _, _, .cons a r, h => .cons a (rps_app r h)
theorem rps_rev {K : Fg} {G : Hp} : ∀ {xs : List V} {ds : List PyData}, Rps K G xs ds → Rps K G xs.reverse ds.reverse
  | _, _, .nil => .nil
  | _, _, .cons a r => by rw [List.reverse_cons, List.reverse_cons]; exact rps_app (rps_rev r) (.cons a .nil)
theorem re_rev {K : Fg} {te ts : TE} {we ws : WX} (he : RE K te we) (hs : RE K ts ws) : RE K (tRevS K te ts) (wRevS we ws) := fun F G H μ σ ρ P Q S w q => he F G H μ σ ρ _ _ S w fun x u G1 H1 μ1 e1 S1 r1 w1 => hs F G1 H1 μ1 σ ρ _ _ (S.mono e1 S1) w1 fun y v G2 H2 μ2 e2 S2 r2 ⟨ev, w2⟩ => by
  subst ev
  refine ⟨rp_int r2, ?_⟩
  have r1 := r1.mono e2
  rcases w2 with ⟨ds, hl, p⟩ | ⟨ds, eu, p⟩
  · obtain ⟨a, xs, rfl, h1, h2⟩ := listU_ok S2 r1 hl
    refine ⟨a, xs, rfl, .inl ⟨h1, fun c hc => ?_⟩⟩
    obtain ⟨e3, S3⟩ := S2.newG (o := .lst xs.reverse) hc
    exact q (.ref c) (.d (.list ds.reverse)) _ _ μ2 ((e1.trans e2).trans e3) S3 (Rp.lst (SqL.of upd_same) ((rps_rev (d_rus h2)).mono e3)) p
  · subst eu
    have r1 : Rp K G2 x (.tuple ds) := r1
    cases r1 with
    | tup ha hr =>
      refine ⟨_, _, rfl, .inr ⟨ha.sq S2.sub, fun c o hc to => ?_⟩⟩
      obtain ⟨e3, S3⟩ := S2.newG hc
      exact q (.ref c) (.d (.tuple ds.reverse)) _ _ μ2 ((e1.trans e2).trans e3) S3 (Rp.tup (.new to) ((rps_rev hr).mono e3)) p
def w_revS {X : Cx} {e st : Expr} {te ts : TE} {we ws : WX} {p2 pos : Pos} (he : WE X e te we) (hs : WE X st ts ws) : WE X (.Subscript e (.Slice none none (some st) p2) pos) (tRevS X.K te ts) (wRevS we ws) := ⟨pe_rev he.pe hs.pe, re_rev he.re hs.re⟩
end L3

/-! a law's promise at the caller's around -/
namespace L2
open PySem PySem.Spec PyProof.Rows
structure FnG (P : Program) (w : World) (K : PySem.W.Frag) (mg : Str → Option Value) (base : Heap) (CX : CXT) (k : Nat) (f : Addr) (fd : FuncData) (ps : List Str) (sp : Sp) : Prop where
  len : ∀ vs H Q E, sp vs H Q E → vs.length = ps.length
  run : ∀ (s : Shared) (H : Hp) (args : Args) (us : List Value) (vs : List V) (Q : VK) (E : XK), Room k callerA → Env0 P w K mg base callerA [] s H → BindsTo s fd args (ps.zip us) → Vals vs us → sp vs H Q E → codeAny (model P w) callerA (.call (.ref f) args) (CR CX [] P w H s Q E) s
theorem FnG.imp {P : Program} {w : World} {K : PySem.W.Frag} {mg : Str → Option Value} {base : Heap} {CX : CXT} {k : Nat} {f : Addr} {fd : FuncData} {ps : List Str} {sp sp' : Sp} (F : FnG P w K mg base CX k f fd ps sp) (h : ∀ vs H Q E, sp' vs H Q E → sp vs H Q E) : FnG P w K mg base CX k f fd ps sp' :=
  ⟨fun vs H Q E q => F.len vs H Q E (h _ _ _ _ q), fun s H args us vs Q E hr he hb hv hs => F.run s H args us vs Q E hr he hb hv (h _ _ _ _ hs)⟩
theorem fnG_of {CX : CXT} {P : Program} {w : World} {K : PySem.W.Frag} {mg : Str → Option Value} {base : Heap} {k : Nat} {f : Addr} {name qual : Str} {params : Arguments} {body : List Stmt} {scope : Scope} {dV kV doc pm cdv ct oc : Value} {an od : Option Addr}
    {osl : Array (Option Value)} {N ps : List Str} {sp : Sp} (lk : K.lookup f = some ⟨oc, od, .func (PySem.W.fnOf name qual params body scope dV kV doc pm an cdv ct), osl⟩) (hcd : PySem.W.codeIn K cdv qual = true) (S : FnScope N ps scope)
    (len : ∀ vs H Q E, sp vs H Q E → vs.length = ps.length)
    (hbody : ∀ (s : Shared) (H : Hp) (vs : List V) (Q : VK) (E : XK), Room k (callerA.deeper (envOfC qual scope s.heap.objs.size f cdv)) → sp vs H Q E →
      ∃ t, PSs (cxOf CX P w K mg base N qual scope f cdv callerA [] s H E) body t ∧ t { nx := fun _ H' => Q .non H', rt := Q } (start N vs) H) :
    FnG P w K mg base CX (k + 1) f (PySem.W.fnOf name qual params body scope dV kV doc pm an cdv ct) ps sp := by
  refine ⟨len, fun s H args us vs Q E hr e0 hb r hsp => ?_⟩
  have hl := len _ _ _ _ hsp
  have KXq : K.In s.heap := e0.mod.kin.keeps fun b o e => (e0.bs b o e).1
  have lmt : s.heap.NoLimit := e0.mod.nolimit.keeps fun b o e => (e0.bs b o e).1
  have hkd : ∀ y ∈ ps.zip us, scope.names.lookup y.1 = some .local ∨ (scope.names.lookup y.1 = some .cell ∧ ((cellsFrom (s.heap.objs.size + 1) scope.names []).lookup y.1).isSome = true) := fun ⟨n, v⟩ hy => by
    rcases S.par n (List.of_mem_zip hy).1 with q | q
    · exact .inl q
    · exact .inr ⟨q, PySem.W.cellsFrom_some _ _ _ (.inl q)⟩
  refine codeAny_call_function hr.depth (KXq _ _ lk) rfl S.co S.gen rfl (PySem.W.codeRec_of KXq hcd) (hb _ _ _ _ ?_)
  refine wpAny_newFunctionEnv_cells S.kind hkd fun env he s1 x => ?_
  subst he
  refine ⟨lmt.keeps x.toInCall.keep, codeAny_func ?_⟩
  obtain ⟨t, ht, hq⟩ := hbody s H vs Q E (hr.deeper _) hsp
  have I : Inv (cxOf CX P w K mg base N qual scope f cdv callerA [] s H E) [] (start N vs) H s1 := inv_start S hr.hd e0 hl r x
  refine wpAny_mono (ht.run [] s1 (start N vs) H _ I hq) (fun fl s' hs => ?_) fun e s' hs => hs
  have fnq : ∀ {σ' : St} {H' : Hp} {v : V} {u : Value}, Inv (cxOf CX P w K mg base N qual scope f cdv callerA [] s H E) [] σ' H' s' → RelV v u → Q v H' → CE [] P w H s Q u s' :=
    fun {σ' H' v u} J rv q => ⟨v, H', J.os, J.bare, J.base, J.hok, rv, q⟩
  cases fl with
  | ret u =>
    obtain ⟨v, σ', H', J, rv, q⟩ := hs
    exact fnq J rv q
  | next =>
    obtain ⟨σ', H', J, q⟩ := hs
    exact fnq (v := V.non) (u := Value.none) J rfl q
  | brk =>
    obtain ⟨_, _, _, q⟩ := hs
    exact False.elim q
  | cont =>
    obtain ⟨_, _, _, q⟩ := hs
    exact False.elim q
theorem lawG_call {P : Program} {w : World} {K : PySem.W.Frag} {mg mb : Str → Option Value} {CX : CXT} {k : Nat} {fa a : Addr} {fd : FuncData} {x : Str} {sp : Sp} {sA : Shared} {vs : List Value} {ns : List Int}
    (KXq : K.In sA.heap) (hns : sA.heap.Ns mainGlobals mg) (hb : sA.heap.Ns builtinsNs mb) (hbq : ∀ x : Str, x ≠ "__name__" → mb x = bootBuiltins x) (hlm : sA.heap.NoLimit) (hg : sA.gens = #[])
    (ha : sA.heap.get? a = some { cls := .type "list", data := .seq vs.toArray }) (hi : IntsAre vs ns) (hl : ns.length ≤ sizeLine) (hr : Room k callerA)
    (F : ∀ base : Heap, K.In base → base.Ns mainGlobals mg → FnG P w K mg base CX k fa fd [x] sp) (hbind : ∀ (s : Shared) (u : Value), BindsTo s fd ⟨[u], []⟩ [(x, u)])
    (hsp : ∀ H : Hp, Only H → SqL K H a (ns.map V.int) → sp [.ref a] H (fun v _ => v = .bl true) fun _ _ _ => False)
    (hCX : ∀ H e s', CX [] H sA (fun _ _ _ => False) e s' → False) :
    codeAny (model P w) callerA (.call (.ref fa) ⟨[.ref a], []⟩) (fun r s' => r = .ok (.ret (.bool true)) ∧ OldK sA.heap s'.heap ∧ s'.os = sA.os ∧ AllBare s'.gens) sA := by
  have rv := vals_ints hi
  have lnV := hi.length
  -- from an abstract heap in which nothing but the script may be tracked
  have core : ∀ H : Hp, Only H → SqL K H a (ns.map V.int) → HOk P w H sA.heap → (∀ b, H b ≠ none → b = a) → (H a ≠ none → K.lookup a = none) →
      codeAny (model P w) callerA (.call (.ref fa) ⟨[.ref a], []⟩) (fun r s' => r = .ok (.ret (.bool true)) ∧ OldK sA.heap s'.heap ∧ s'.os = sA.os ∧ AllBare s'.gens) sA := by
    intro H hO hS hzk hA hK
    have bas_of : ∀ {b : Addr} {o : Obj}, sA.heap.get? b = some o → H b = none → (hidT sA.heap H).get? b = some o := fun e n => hidT_get e n
    have nqA : ∀ {b : Addr} {o : Obj} {es : Array DictEntry} {ep : Nat}, sA.heap.get? b = some o → o.data = .dict es ep → H b = none := fun {b o es ep} e d => by
      cases q : H b with
      | none => rfl
      | some u =>
        have e' : b = a := hA b (by rw [q]; simp)
        subst e'
        rw [ha] at e; cases e
        have d' : Data.seq vs.toArray _ = Data.dict es ep := d
        cases d'
    have nzK : ∀ {b : Addr} {m : Str → Option Value}, sA.heap.Ns b m → (hidT sA.heap H).Ns b m := fun {b m} ⟨o, es, ep, e, d, r⟩ => ⟨o, es, ep, bas_of e (nqA e d), d, r⟩
    have hKq : K.In (hidT sA.heap H) := fun b o e => bas_of (KXq b o e) (by
      cases q : H b with
      | none => rfl
      | some u =>
        have e' : b = a := hA b (by rw [q]; simp)
        subst e'
        rw [hK (by rw [q]; simp)] at e; cases e)
    have hM : Mod K mg (hidT sA.heap H) := ⟨hKq, nzK hns, ⟨mb, nzK hb, hbq⟩, let ⟨mc, h1, h2⟩ := hlm; ⟨mc, nzK h1, h2⟩⟩
    have e0 : Env0 P w K mg (hidT sA.heap H) callerA [] sA H := ⟨rfl, hM, fun b o e => of_hidT e, Nat.le_of_eq (hidT_size _ _), trivial, fun b hb => absurd (show b ∈ ([] : List Addr) from hb) (by simp), hzk, .of_eq hg⟩
    refine codeAny_mono ((F _ hKq (nzK hns)).run sA H ⟨[.ref a], []⟩ [.ref a] [.ref a] _ _ hr e0 (hbind sA (.ref a)) (.cons rfl .nil) (hsp H hO hS)) fun r s' h => ?_
    cases r with
    | error e => exact (hCX H e s' h).elim
    | ok fl =>
      cases fl with
      | next => exact False.elim h
      | brk => exact False.elim h
      | cont => exact False.elim h
      | ret u =>
        obtain ⟨v, H', os, bare, un, hzk', r', q⟩ := h
        have q' : v = .bl true := q
        subst q'
        obtain rfl : u = Value.bool true := r'
        refine ⟨rfl, OldK.of_keep fun b o e => ?_, os, bare⟩
        cases q : H b with
        | none => exact un.keep b o e q (by intro z; exact absurd (show b ∈ ([] : List Addr) from z) (by simp)) (by simp)
        | some u =>
          rcases hO b with z | ⟨ob, xs, z⟩
          · rw [q] at z; cases z
          · have z2 := un.frzs b ob _ z
            obtain ⟨e1, _⟩ := hzk b _ z
            obtain ⟨e2, _⟩ := hzk' b _ z2
            rw [e] at e1; cases e1
            exact e2
  cases hk : K.lookup a with
  | some o =>
    -- the script is one of the module's own objects
    have e := KXq a o hk
    rw [ha] at e
    cases e
    refine core (fun _ => none) (fun _ => .inl rfl) (.inr ⟨_, vs.toArray, _, hk, rfl, rfl, rfl, by rw [List.size_toArray, lnV]; exact hl, by simpa using rv⟩) (fun b u z => by have z' : (none : Option HO) = some u := z; cases z') (fun b z => absurd rfl z) fun z => absurd rfl z
  | none =>
    refine core (fun b => if b = a then some (.frz { cls := .type "list", data := .seq vs.toArray } (.lst (ns.map V.int))) else none) (fun b => ?_) (.inl (.inr ⟨{ cls := .type "list", data := .seq vs.toArray }, if_pos rfl⟩)) (fun b u z => ?_) (fun b z => ?_) fun _ => hk
    · by_cases hb : b = a
      · exact .inr ⟨_, _, if_pos hb⟩
      · exact .inl (if_neg hb)
    · by_cases hb : b = a
      · have z' := (if_pos hb).symm.trans z
        cases z'
        subst hb
        exact ⟨ha, by rw [List.length_map]; exact hl, vs, _, rv, ha⟩
      · have z' := (if_neg hb).symm.trans z
        cases z'
    · by_cases hb : b = a
      · exact hb
      · exact absurd (if_neg hb) z
theorem walk_ofG {l : PySem.W.OpenLaw} {n k : Nat} {q : Program} {loose : List Str} {XP : (Str → Option Value) → Heap → Prop} {YP : World → Heap → Prop} {d : DefRec} {CX : CXT} {x : Str}
    (hn : l.most = some n) (hn2 : n ≤ sizeLine) (hdf : d.params.defaults = []) (hr : Room k callerA)
    (F : ∀ (w : World) (mg : Str → Option Value) (fa : Addr) (h : Heap), YP w h → h.Ns mainGlobals mg → mg d.name = some (.ref fa) →
      ∃ (K : PySem.W.Frag) (fd : FuncData) (sp : Sp), K.In h ∧ (∀ (s : Shared) (u : Value), BindsTo s fd ⟨[u], []⟩ [(x, u)]) ∧
        (∀ (H : Hp) (a : Addr) (ns : List Int), ns.length ≤ n → Only H → SqL K H a (ns.map V.int) → sp [.ref a] H (fun v _ => v = .bl true) fun _ _ _ => False) ∧
        ∀ base : Heap, K.In base → base.Ns mainGlobals mg → FnG l.prog w K mg base CX k fa fd [x] sp)
    (hCX : ∀ (H : Hp) (s : Shared) (e : Value) (s' : Shared), CX [] H s (fun _ _ _ => False) e s' → False) :
    PySem.W.WalkO q loose XP YP l.row.toRowW d [] (fun f vs => PySem.call f vs) := by
  refine Att.attach_call hn hdf fun w s₀ sA mg mb fa o pm cd doc a vs ns G Y ho hd hcd hmg hobj hints hlen hg => ?_
  obtain ⟨K, fd, sp, KXq, hb, hsp, hF⟩ := F w mg fa _ Y G.T.g hmg
  exact lawG_call KXq G.T.g G.T.b G.T.builtins G.T.nolimit hg hobj hints (Nat.le_trans hlen hn2) hr hF hb (fun H hO hS => hsp H a ns hlen hO hS) fun H e s' => hCX H sA e s'
end L2
namespace L3
open PySem PySem.Spec PyProof.Rows L2
section
variable {P : Program} {w : World} {K : Fg} {mg : Str → Option Value} {base : Heap}
theorem fn3G {x : Str} {params : Arguments} {body : List Stmt} {scope : Scope} {f : Addr} {fd : FuncData} {N ps : List Str} {k : Nat} {s : WF} (Fd : FunD K x x params body scope [] [] f fd) (S : FnScope N ps scope)
    (len : ∀ us μ Q, s us μ Q → us.length = ps.length)
    (hbody : ∀ (cdv : Value) (sh : Shared) (H : Hp) (E : XK), Room k (callerA.deeper (envOfC x scope sh.heap.objs.size f cdv)) →
      ∃ t wt, WSs (cxOf CX0 P w K mg base N x scope f cdv callerA [] sh H E).nox body t wt ∧ ∀ us μ Q, s us μ Q → wt { nx := fun _ μ' => ∃ u2 μ2, Gv μ (.d .none) μ' u2 μ2 ∧ Q u2 μ2, rt := fun u μ' => ∃ u2 μ2, Gv μ u μ' u2 μ2 ∧ Q u2 μ2 } (start3 N us) μ) :
    FnG P w K mg base C8.CX0 (k + 1) f fd ps (sp3 K s) := by
  obtain ⟨oc, od, dV, kV, doc, pm, an, cdv, ct, osl, rfl, lk, hcd, _, _⟩ := Fd.ex
  refine fnG_of lk hcd S (fun vs H Q E h => ?_) fun sh H vs Q E hr h => ?_
  · obtain ⟨us, F, G, μ, Pd, S0, r, hs, q⟩ := h
    rw [r.length]
    exact len _ _ _ hs
  · obtain ⟨us, F, G, μ, Pz, S3, r, hs, q⟩ := h
    obtain ⟨t, wt, hw, hq⟩ := hbody cdv sh H E hr
    refine ⟨t, PSs.nox hw.ps, hw.rs F G H μ (L2.start N vs) (start3 N us) _ _ (start_sim S3 r) ⟨?_, ?_, ?_, ?_⟩ (hq us μ Pz hs)⟩
    · rintro σ' G' H' ρ' μ' e S' ⟨u2, μ2, g, p⟩
      obtain ⟨G2, e2, S2, r2⟩ := g.go (v := .non) S'.st Rp.non
      exact q .non u2 G2 H' μ2 (e.trans e2) S2 r2 p
    · rintro v u G' H' μ' e S' r' ⟨u2, μ2, g, p⟩
      obtain ⟨G2, e2, S2, r2⟩ := g.go S' r'
      exact q v u2 G2 H' μ2 (e.trans e2) S2 r2 p
    · exact fun _ _ _ _ _ _ _ h => h.elim
    · exact fun _ _ _ _ _ _ _ h => h.elim
end
end L3

/-! repr of lists and tuples of data, where the guards are known -/
namespace L2
open PySem PySem.Spec PyProof.Rows
def rRepr (K : PySem.W.Frag) : List V → Hp → VK → Prop := fun vs H Q => ∃ (a : Addr) (d : PyData), vs = [.ref a] ∧ Dp K H (.ref a) d ∧ d.showable = true ∧ d.hasDict = false ∧ d.depth ≤ 190 ∧ d.shown.length ≤ sizeLine ∧ Q (.str d.shown) H
theorem cr_repr {X : Cx} (hgd : X.A.guards = some []) (hu : X.A.units + 192 < cLine) : CallR X (.builtin "repr") (rRepr X.K) := by
  intro pins s σ H vs us Q I r h
  obtain ⟨a, d, rfl, hd, hs, hn, hdp, hz, q⟩ := h
  obtain ⟨u, rfl, ru⟩ := vals1 r
  obtain ⟨as, r1⟩ := Dp.reads I d (.ref a) u hd ru
  obtain rfl : u = Value.ref a := ru
  exact repr_of_reads' r1 hs (PyData.noDict_hsm hn) hgd (by omega) (fun _ _ e => e) (fun h' t tk hk => ⟨.str _, H, I.kept (t' := tk) hk, ⟨t, rfl⟩, q⟩) hz
end L2
namespace L3
open PySem PySem.Spec PyProof.Rows L2
def seqD : PyData → Prop
  | .list _ => True
  | .tuple _ => True
  | _ => False
def qRepr : WQ := fun us μ P => ∃ d : PyData, us = [.d d] ∧ seqD d ∧ d.showable = true ∧ d.hasDict = false ∧ d.depth ≤ 190 ∧ d.shown.length ≤ sizeLine ∧ P (.d (.str d.shown)) μ
section
variable {K : Fg} {X : Cx} {e : Expr} {es : List Expr} {t : TA} {w : WL} {p pos : Pos}
theorem rp_ref {G : Hp} {v : V} {d : PyData} (r : Rp K G v d) (h : seqD d) : ∃ a, v = .ref a := by
  cases r with
  | lst _ _ => exact ⟨_, rfl⟩
  | tup _ _ => exact ⟨_, rfl⟩
  | _ => exact h.elim
theorem rq_repr : RQ K (rRepr K) qRepr := fun F G H μ vs us P Q S r ⟨d, e, hs, h1, h2, h3, h4, p⟩ q => by
  subst e
  obtain ⟨v, rfl, q1⟩ := rus1 r
  have q1 : Rp K G v d := q1
  obtain ⟨a, rfl⟩ := rp_ref q1 hs
  exact ⟨a, d, rfl, Rp.dp S.sub q1, h1, h2, h3, h4, q _ (.d (.str _)) G H μ (Ext.refl G) S (Rp.str _) p⟩
def w_repr (hgd : X.A.guards = some []) (hu : X.A.units + 192 < cLine) (hg : Gl X "repr") (hm : X.mg "repr" = none) (ha : WAr X (e :: es) t w) (he : starEach (e :: es) X.env = (false, eval e X.env) :: starEach es X.env := by rfl) (hpl : (backTo pos (starEach es X.env)).any (·.1) = false := by rfl) := show WE X (.Call (.Name "repr" p) (e :: es) [] pos) _ (wQ qRepr w) from w_qb (cr_repr hgd hu) rq_repr hg hm PyProof.Rows.boot_repr ha (by decide) (by decide) he hpl
end
end L3
namespace L3
open PySem PySem.Spec PyProof.Rows L2
theorem hu66 {k : Nat} {A : Around} (hr : Room k A) : A.units + 192 < cLine := by
  have := hr.un
  omega
end L3

/-! dicts that may change: in, not in, d[k], d.get(k, v); dict comprehensions with any target -/
namespace L3
open PySem PySem.Spec PyProof.Rows L2
def valU (kvs : List (Key × U)) (k : Key) : Option U := (kvs.find? fun kv => decide (kv.1 = k)).map (·.2)
/-- the entries of a dict, locked or not -/
def dctU (μ : Mu) (a : Addr) : Option (List (Key × U)) := match μ a with
  | some (.dct k) => some k
  | some (.lck _ _ k) => some k
  | _ => none
theorem dctU_of {μ : Mu} {a : Addr} {k : List (Key × U)} (h : μ a = some (.dct k)) : dctU μ a = some k := by unfold dctU; rw [h]
theorem dctU_lck {μ : Mu} {a : Addr} {o : Obj} {w : List (Key × V)} {k : List (Key × U)} (h : μ a = some (.lck o w k)) : dctU μ a = some k := by unfold dctU; rw [h]
theorem dctU_ok {K : Fg} {F G H : Hp} {μ : Mu} {a : Addr} {kvs : List (Key × U)} (S : St3 K F G H μ) (h : dctU μ a = some kvs) : ∃ kws, Rd H a (.dK kws) ∧ Rkv K G kws kvs := by
  unfold dctU at h
  cases e : μ a with
  | none => rw [e] at h; cases h
  | some m =>
    rw [e] at h
    cases m with
    | dct k =>
      cases h
      obtain ⟨_, kws, h1, h2⟩ := S.mu _ _ e
      exact ⟨kws, .inl h1, h2⟩
    | lck o w k =>
      cases h
      obtain ⟨_, h1, h2⟩ := S.mu _ _ e
      exact ⟨w, .inr ⟨o, h1⟩, h2⟩
    | _ => cases h
def wDIn (f : Bool → Bool) (wk wd : WX) : WX := fun ρ μ P => wk ρ μ fun k μ1 => wd ρ μ1 fun d μ2 => ∃ a kvs y, d = .r a ∧ k = kU y ∧ dctU μ2 a = some kvs ∧ P (.d (.bool (f (valU kvs y).isSome))) μ2
def wDGet (wd wk : WX) : WX := fun ρ μ P => wd ρ μ fun d μ1 => wk ρ μ1 fun k μ2 => ∃ a kvs y v, d = .r a ∧ k = kU y ∧ dctU μ2 a = some kvs ∧ valU kvs y = some v ∧ P v μ2
def wDGet2 (wd wk wx : WX) : WX := fun ρ μ P => wd ρ μ fun d μ1 => (∃ a kvs, d = .r a ∧ dctU μ1 a = some kvs) ∧ wk ρ μ1 fun k μ2 => wx ρ μ2 fun z μ3 => ∃ a kvs y, d = .r a ∧ k = kU y ∧ dctU μ3 a = some kvs ∧ P ((valU kvs y).getD z) μ3
section
variable {K : Fg} {X : Cx} {pos : Pos}
theorem rkv_val {G : Hp} {k : Key} : ∀ {vs : List (Key × V)} {us : List (Key × U)}, Rkv K G vs us → (valV vs k = none ∧ valU us k = none) ∨ ∃ v u, valV vs k = some v ∧ valU us k = some u ∧ Ru K G v u
  | _, _, .nil => .inl ⟨rfl, rfl⟩
  | _, _, .cons (k := j) (v := v) (u := u) h t => by
    by_cases e : j = k
    · exact .inr ⟨v, u, by simp [valV, e], by simp [valU, e], h⟩
    · have i := rkv_val (k := k) t
      simp only [valV, valU, List.find?_cons, decide_eq_false e] at i ⊢
      exact i
theorem re_din {f : Bool → Bool} {tk td : TE} {wk wd : WX} {t : TE} (ht : ∀ σ H Q, t σ H Q ↔ tk σ H fun y H1 => td σ H1 fun x H2 => ∃ a o, x = .ref a ∧ DGet H2 a y o ∧ Q (.bl (f o.isSome)) H2) (hk : RE K tk wk) (hd : RE K td wd) : RE K t (wDIn f wk wd) := fun F G H μ σ ρ P Q S w q =>
  (ht _ _ _).mpr (hk F G H μ σ ρ _ _ S w fun k ku G1 H1 μ1 e1 S1 r1 p1 => hd F G1 H1 μ1 σ ρ _ _ (S.mono e1 S1) p1 fun d du G2 H2 μ2 e2 S2 r2 ⟨a, kvs, y, ed, ek, hm, p2⟩ => by
    subst ed ek
    obtain ⟨kws, h1, h2⟩ := dctU_ok S2 hm
    have ey : k = kV y := ru_key (r1.mono e2)
    refine ⟨a, valV kws y, r2, .inl ⟨kws, y, h1, ey, rfl⟩, ?_⟩
    have e : (valV kws y).isSome = (valU kvs y).isSome := by
      rcases rkv_val (k := y) h2 with ⟨e1, e2⟩ | ⟨v, u, e1, e2, _⟩ <;> rw [e1, e2] <;> rfl
    rw [e]
    exact q (.bl _) (.d (.bool _)) G2 H2 μ2 (e1.trans e2) S2 (Rp.bl _) p2)
theorem re_dget {tk td : TE} {wk wd : WX} (hd : RE K td wd) (hk : RE K tk wk) : RE K (tDGet td tk) (wDGet wd wk) := fun F G H μ σ ρ P Q S w q =>
  hd F G H μ σ ρ _ _ S w fun d du G1 H1 μ1 e1 S1 r1 p1 => hk F G1 H1 μ1 σ ρ _ _ (S.mono e1 S1) p1 fun k ku G2 H2 μ2 e2 S2 r2 ⟨a, kvs, y, v, ed, ek, hm, hv, p2⟩ => by
    subst ed ek
    obtain ⟨kws, h1, h2⟩ := dctU_ok S2 hm
    have ey : k = kV y := ru_key r2
    rcases rkv_val (k := y) h2 with ⟨_, e4⟩ | ⟨x, u, e3, e4, r⟩
    · rw [hv] at e4; cases e4
    · rw [hv] at e4
      cases e4
      exact ⟨a, x, r1, .inl ⟨kws, y, h1, ey, e3.symm⟩, q x v G2 H2 μ2 (e1.trans e2) S2 r p2⟩
theorem re_dget2 {tk td tx : TE} {wk wd wx : WX} (hd : RE K td wd) (hk : RE K tk wk) (hx : RE K tx wx) : RE K (tDGet2 td tk tx) (wDGet2 wd wk wx) := fun F G H μ σ ρ P Q S w q =>
  hd F G H μ σ ρ _ _ S w fun d du G1 H1 μ1 e1 S1 r1 ⟨⟨a0, kvs0, ed0, hm0⟩, p1⟩ => by
    subst ed0
    obtain ⟨kws0, g1, g2⟩ := dctU_ok S1 hm0
    refine ⟨a0, r1, .inl ⟨kws0, g1⟩, hk F G1 H1 μ1 σ ρ _ _ (S.mono e1 S1) p1 fun k ku G2 H2 μ2 e2 S2 r2 p2 => hx F G2 H2 μ2 σ ρ _ _ (S.mono (e1.trans e2) S2) p2 fun z zu G3 H3 μ3 e3 S3 r3 ⟨a, kvs, y, ed, ek, hm, p3⟩ => ?_⟩
    cases ed
    subst ek
    obtain ⟨kws, h1, h2⟩ := dctU_ok S3 hm
    have ey : k = kV y := ru_key r2
    refine ⟨valV kws y, .inl ⟨kws, y, h1, ey, rfl⟩, ?_⟩
    rcases rkv_val (k := y) h2 with ⟨e4, e5⟩ | ⟨x, u, e4, e5, r⟩
    · rw [e5] at p3
      rw [e4]
      exact q z zu G3 H3 μ3 ((e1.trans e2).trans e3) S3 r3 p3
    · rw [e5] at p3
      rw [e4]
      exact q x u G3 H3 μ3 ((e1.trans e2).trans e3) S3 r p3
theorem w_dget {o i : Expr} {td ty : TE} {wd wk : WX} (hu : X.A.units + 1 < cLine) (ho : WE X o td wd) (hi : WE X i ty wk) (hs : NoSl i := by exact fun _ _ => rfl) : WE X (.Subscript o i pos) (tDGet td ty) (wDGet wd wk) := ⟨pe_dget hu ho.pe hi.pe hs, re_dget ho.re hi.re⟩
theorem w_dget2 {o e f : Expr} {td ty tx : TE} {wd wk wx : WX} {apos cpos : Pos} (hu : X.A.units + 1 < cLine) (ho : WE X o td wd) (he : WE X e ty wk) (hf : WE X f tx wx) (m : M2 X o "get" apos e f cpos := by exact ⟨rfl, rfl, rfl, rfl⟩) : WE X (.Call (.Attribute o "get" apos) [e, f] [] cpos) (tDGet2 td ty tx) (wDGet2 wd wk wx) := ⟨pe_dget2 hu ho.pe he.pe hf.pe m, re_dget2 ho.re he.re hf.re⟩
end
section
variable {K : Fg} {X : Cx} {tg iter kx vx : Expr} {ifs : List Expr} {scope : Scope} {pos : Pos} {wi : TI} {wj : WIt} {g : TG} {wg : WTg} {tt : TT} {wt : WB} {tk tv : TE} {wk wv : WX}
theorem w_dcN (own : List (Str × Nat)) (vs : List Nat) (hv : own.map (·.2) = vs) (hc : X.calm = true) (hN : X.N.Nodup) (hi : WI X tg iter wi wj) (ok : BlkOk X.N X.env.scope scope own) (go : GOnly g vs)
    (_ : WG (X.blk X.s_0 X.H_0 scope (compEnvC scope [] 0 X.env) []) tg g wg) (_ : WTs (X.blk X.s_0 X.H_0 scope (compEnvC scope [] 0 X.env) []) ifs tt wt) (_ : WE (X.blk X.s_0 X.H_0 scope (compEnvC scope [] 0 X.env) []) kx tk wk) (_ : WE (X.blk X.s_0 X.H_0 scope (compEnvC scope [] 0 X.env) []) vx tv wv)
    (hg : ∀ (s : Shared) (H : Hp) (C : Addr) (cl : List (Str × Addr)) (fp : List Addr), WG (X.blk s H scope (compEnvC scope cl C X.env) fp) tg g wg) (ht : ∀ (s : Shared) (H : Hp) (C : Addr) (cl : List (Str × Addr)) (fp : List Addr), WTs (X.blk s H scope (compEnvC scope cl C X.env) fp) ifs tt wt)
    (hk : ∀ (s : Shared) (H : Hp) (C : Addr) (cl : List (Str × Addr)) (fp : List Addr), WE (X.blk s H scope (compEnvC scope cl C X.env) fp) kx tk wk)
    (he : ∀ (s : Shared) (H : Hp) (C : Addr) (cl : List (Str × Addr)) (fp : List Addr), WE (X.blk s H scope (compEnvC scope cl C X.env) fp) vx tv wv) (hs : ∀ x, foldedSetIterable iter X.env x = pure x := by intro _; rfl) :
    WE X (.DictComp kx vx [⟨tg, iter, ifs, 0⟩] scope pos) (tDc wi g tt tk tv vs) (wDc wj vs wg wt wk wv) := by
  subst hv
  exact ⟨pe_dc (own := own) hc hN hi.pi ok (fun s H C cl fp => (hg s H C cl fp).pg) (fun s H C cl fp => (ht s H C cl fp).pt) (fun s H C cl fp => (hk s H C cl fp).pe) (fun s H C cl fp => (he s H C cl fp).pe) hs,
    re_dc hi.ri (hg X.s_0 X.H_0 0 [] []).rg go (ht X.s_0 X.H_0 0 [] []).rt (hk X.s_0 X.H_0 0 [] []).re (he X.s_0 X.H_0 0 [] []).re⟩
end
/-! ### over a dict: it is locked as long -/
def wLock (w : WX) : WX := fun ρ μ P => ∃ (a : Addr) (kvs : List (Key × U)), μ a = some (.dct kvs) ∧ ∀ od kws, w ρ (put μ a (.lck od kws kvs)) fun u μ' => μ' a = some (.lck od kws kvs) ∧ P u (put μ' a (.dct kvs))
def jKeys (w : WX) : WIt := fun ρ μ P => w ρ μ fun u μ1 => ∃ (a : Addr) (od : Obj) (kws : List (Key × V)) (kvs : List (Key × U)), u = .r a ∧ μ1 a = some (.lck od kws kvs) ∧ P (kvs.map fun kv => kU kv.1) (fun μ2 => μ2 a = some (.lck od kws kvs)) μ1
section
variable {K : Fg} {X : Cx} {pos : Pos}
theorem ru_kU {G : Hp} (k : Key) : Ru K G (kV k) (kU k) := by
  cases k with
  | inl i => exact Rp.int i
  | inr x => exact Rp.str x
theorem re_lock {t : TE} {w : WX} (h : RE K t w) : RE K (tLockE t) (wLock w) := fun F G H μ σ ρ P Q S ⟨a, kvs, hm, hw⟩ q => by
  obtain ⟨_, kws, h1, h2⟩ := S.st.mu _ _ hm
  refine ⟨a, .dK kws, h1, trivial, fun od => ?_⟩
  have S2 : St3 K F G (upd H a (.frz od (.dK kws))) (put μ a (.lck od kws kvs)) := S.st.write (m' := .lck od kws kvs) hm ⟨upd_same, h2⟩
  refine h F G _ _ σ ρ _ _ (S.mono (Ext.refl G) S2) (hw od kws) fun v u G1 H1 μ1 e1 S1 r1 ⟨hm1, p1⟩ => ?_
  obtain ⟨_, k1, k2⟩ := S1.mu _ _ hm1
  have S3 : St3 K F G1 (upd H1 a (.dK kws)) (put μ1 a (.dct kvs)) := S1.write (m' := .dct kvs) hm1 ⟨kws, upd_same, k2⟩
  exact ⟨k1, q v u G1 _ _ e1 S3 r1 p1⟩
theorem w_lock {e : Expr} {t : TE} {w : WX} (h : WE X e t w) : WE X e (tLockE t) (wLock w) := ⟨pe_lock h.pe, re_lock h.re⟩
theorem rkv_at {G : Hp} : ∀ {vs : List (Key × V)} {us : List (Key × U)} {i : Nat} {k : Key} {v : V}, Rkv K G vs us → vs[i]? = some (k, v) → ∃ u, us[i]? = some (k, u)
  | _, _, _, _, _, .nil, h => by simp at h
  | _, _, 0, _, _, .cons r t, h => by
    cases h
    exact ⟨_, rfl⟩
  | _, _, i + 1, k, v, .cons r t, h => by
    obtain ⟨u, e⟩ := rkv_at (i := i) t (by simpa using h)
    exact ⟨u, by simpa using e⟩
theorem ri_keys {te : TE} {we : WX} (h : RE K te we) : RI K (iKeys te) (jKeys we) := fun F G H μ σ ρ P R S w q => h F G H μ σ ρ _ _ S w fun v u G1 H1 μ1 e1 S1 r1 ⟨a, od, kws, kvs, eu, hm, p⟩ => by
  subst eu
  obtain ⟨_, k1, k2⟩ := S1.mu _ _ hm
  refine ⟨a, od, r1, .inl ⟨kws, k1, q _ (kvs.map fun kv => kU kv.1) _ G1 H1 μ1 e1 S1 ?_ p⟩⟩
  intro F2 G2 H2 μ2 e2 S2 al i
  obtain ⟨_, m1, m2⟩ := S2.mu _ _ al
  have ll := rkv_len m2
  refine ⟨fun hle => ⟨m1, by rw [ll]; simpa using hle⟩, fun z hz => ?_⟩
  have hi : i < kvs.length := by
    have := (List.getElem?_eq_some_iff.mp hz).1
    simpa using this
  refine ⟨⟨m1, by omega⟩, fun x H' ⟨eH, k, v, hk, ex⟩ => ?_⟩
  subst eH ex
  obtain ⟨u, hu⟩ := rkv_at m2 hk
  have ez : z = kU k := by
    have : (kvs.map fun kv => kU kv.1)[i]? = some (kU k) := by rw [List.getElem?_map, hu]; rfl
    rw [this] at hz
    exact (Option.some.inj hz).symm
  subst ez
  exact ⟨G2, Ext.refl G2, S2, ru_kU k⟩
theorem w_keys {tg e : Expr} {te : TE} {we : WX} (h : WE X e te we) : WI X tg e (iKeys te) (jKeys we) := ⟨pi_keys h.pe, ri_keys h.re⟩
end
/-! ### comparisons with a dict -/
section
variable {X : Cx} {pos : Pos} {o i : Expr} {td ty : TE} {wd wk : WX}
theorem w_din (hu : X.A.units + 1 < cLine) (hi : WE X i ty wk) (ho : WE X o td wd) (hm : behindInMarks .In o = false := by rfl) : WCp X (.Compare i [.In] [o] pos) (tDIn ty td) (wDIn id wk wd) :=
  have r : RE X.K (tDIn ty td) (wDIn id wk wd) := re_din (fun _ _ _ => Iff.rfl) hi.re ho.re
  ⟨⟨pe_cmp (pc_din hu hi.pe ho.pe) hm, r⟩, ⟨pt_cmp (pc_din hu hi.pe ho.pe) hm, rt_B r⟩⟩
theorem w_dnin (hu : X.A.units + 1 < cLine) (hi : WE X i ty wk) (ho : WE X o td wd) (hm : behindInMarks .NotIn o = false := by rfl) : WCp X (.Compare i [.NotIn] [o] pos) (tDNotIn ty td) (wDIn not wk wd) :=
  have r : RE X.K (tDNotIn ty td) (wDIn not wk wd) := re_din (fun _ _ _ => Iff.rfl) hi.re ho.re
  ⟨⟨pe_cmp (pc_dnotin hu hi.pe ho.pe) hm, r⟩, ⟨pt_cmp (pc_dnotin hu hi.pe ho.pe) hm, rt_B r⟩⟩
end
end L3

/-! tuple(d): the keys of a dict -/
namespace PySem
open Sem (wp)
open AutoSeq1 (wpAny_loadPart')
section
variable {prog : Program} {w : World} {A : Around} {E : Value → Shared → Prop} {s : Shared} {T : String} {r d : Addr} {n : Nat} {P : Nat → Value → Prop} {OK : Heap → Prop}
theorem collect_src (K : PySem.W.KdlSrc prog w T r d n P OK) (hh : A.handled = none) (hok : OK s.heap) (hn : n ≤ sizeLine) {Q : List Value → Shared → Prop}
    (hQ : ∀ (h' : Heap) (tk : Tok) (acc : Array Value), (∀ b o, s.heap.get? b = some o → h'.get? b = some o) → s.heap.objs.size ≤ h'.objs.size → ItemsOf P acc n → Q acc.toList { s with heap := h', toks := tk }) : wpAny (model prog w) A (collect (.ref r)) Q E s := by
  have lt := K.there _ hok
  unfold collect
  refine wpAny_bind (wpAny_runValue (codeAny_builtin F.entry_proto_collect ?_))
  rw [Around.under_plainId F.plain_proto_collect _]
  show wpAny _ A.in1 (newList [] >>= fun l => again (.builtin "list.__iadd__" ⟨[l, .ref r], []⟩)) _ _ s
  refine wpAny_bind (wpAny_newObj_type ?_)
  refine wpAny_pure ⟨plainId_quiet F.plain_list_iadd _, codeAny_builtin F.entry_list_iadd ?_⟩
  rw [Around.under_plainId F.plain_list_iadd _]
  show wpAny _ A.in1 (Builtin.List.listExtendWith (.ref s.heap.objs.size) (.ref r) (.ref s.heap.objs.size)) _ _ _
  have kp : ∀ b o, s.heap.get? b = some o → (s.heap.push { cls := .type "list", data := .seq ([] : List Value).toArray }).get? b = some o := fun b o e => Heap.get?_push_of_some _ e
  have key := PySem.W.kdl_extend (s := { s with heap := s.heap.push { cls := .type "list", data := .seq ([] : List Value).toArray } }) (R := fun r s' => ∃ (h' : Heap) (tk : Tok) (acc : Array Value) (c : Nat), r = .ok (.ret (.ref s.heap.objs.size)) ∧ s' = { s with heap := h', toks := tk } ∧ (∀ b o, s.heap.get? b = some o → h'.get? b = some o) ∧
      h'.get? s.heap.objs.size = some { cls := .type "list", dict := none, data := .seq acc c, slots := #[] } ∧ ItemsOf P acc n) K hh (K.keep _ _ hok fun b _ o e => kp b o e) s.heap.objs.size (Nat.ne_of_gt lt.1) (Nat.ne_of_gt lt.2) (.ref s.heap.objs.size) 0 (Heap.get?_push_size _ rfl)
    (fun h' tk acc' c' k hS hacc => ⟨h', tk, acc', c', rfl, rfl, fun b o e => k b o (Nat.ne_of_lt (Heap.lt_size e)) (kp b o e), hS, hacc⟩) hn
  have out : ∀ (h' : Heap) (tk : Tok) (acc : Array Value) (c : Nat), (∀ b o, s.heap.get? b = some o → h'.get? b = some o) → h'.get? s.heap.objs.size = some { cls := .type "list", dict := none, data := .seq acc c, slots := #[] } → ItemsOf P acc n →
      wpAny (model prog w) A (load s.heap.objs.size >>= fun o => match o.data with | .seq xs _ => pure xs.toList | _ => unsupported "internal:collect") Q E { s with heap := h', toks := tk } := fun h' tk acc c k hS hacc =>
    wpAny_bind (wpAny_load hS (wpAny_pure (hQ h' tk acc k (Nat.le_of_lt (Heap.lt_size hS)) hacc)))
  refine wpAny_mono key (fun fin s' h => ?_) fun e s' h => ?_
  · cases fin with
    | done f =>
      obtain ⟨h', tk, acc, c, e1, e2, k, hS, hacc⟩ := h
      cases e1
      subst e2
      exact out h' tk acc c k hS hacc
    | again c' =>
      refine ⟨h.1, codeAny_mono h.2 fun r s1 hr => ?_⟩
      obtain ⟨h', tk, acc, c, e1, e2, k, hS, hacc⟩ := hr
      subst e1 e2
      exact out h' tk acc c k hS hacc
  · obtain ⟨_, _, _, _, e1, _⟩ := h
    cases e1
theorem code_tuple_src {Q₁ : Value → Shared → Prop} (K : PySem.W.KdlSrc prog w T r d n P OK) (hh : A.handled = none) (hok : OK s.heap) (hsz : n ≤ sizeLine) (hTn : (Value.type T == Value.type "tuple") = false)
    (h : ∀ (h' : Heap) (tk : Tok) (acc : Array Value), (∀ b o, s.heap.get? b = some o → h'.get? b = some o) → s.heap.objs.size ≤ h'.objs.size → ItemsOf P acc n → Q₁ (.ref h'.objs.size) { s with heap := h'.push { cls := .type "tuple", data := .seq acc }, toks := tk }) :
    codeAny (model prog w) A (.call (.builtin "tuple.__new__") ⟨[.type "tuple", .ref r], []⟩) (wants Q₁ E) s := by
  refine codeAny_of_tree ?_
  show wpAny _ A.in1 (do checkBuiltinCall "tuple.__new__" ⟨[.type "tuple", .ref r], []⟩; again (.builtin "tuple.__new__" ⟨[.type "tuple", .ref r], []⟩)) _ _ s
  refine wpAny_bind (wpAny_of_eq (F.newCall_tuple_1 _) (wpAny_pure ⟨plainId_quiet F.plain_tuple_new _, codeAny_builtin F.entry_tuple_new ?_⟩))
  rw [Around.under_plainId F.plain_tuple_new _]
  have hsub := sub_tuple_self
  have hinit := init_tuple_lookup
  have hmh := madeHere_tuple
  have hTI := K.type s hok
  wp_walk using wpAny_typeOf hTI, collect_src (A := A.in1) K (show A.in1.handled = none from hh) hok hsz
  intro h' tk acc hm hz hacc
  show wpAny _ A.in1 (Builtin.Tuple.tupleExact acc.toList.toArray >>= fun v => ret v) _ _ _
  unfold Builtin.Tuple.tupleExact
  refine wpAny_bind (wpAny_newObj_type ?_ (by show acc.toList.toArray.size ≤ sizeLine; simp only [Array.toArray_toList]; rw [hacc.1]; exact hsz))
  refine wpAny_pure ?_
  have e : acc.toList.toArray = acc := by simp
  rw [e]
  exact h h' tk acc hm hz hacc
theorem call_tuple_src {Q : Value → Shared → Prop} (K : PySem.W.KdlSrc prog w T r d n P OK) (hh : A.handled = none) (hok : OK s.heap) (hsz : n ≤ sizeLine)
    (hQ : ∀ (h' : Heap) (tk : Tok) (acc : Array Value), (∀ b o, s.heap.get? b = some o → h'.get? b = some o) → s.heap.objs.size ≤ h'.objs.size → ItemsOf P acc n → Q (.ref h'.objs.size) { s with heap := h'.push { cls := .type "tuple", data := .seq acc }, toks := tk }) :
    wpAny (model prog w) A (call (.type "tuple") [.ref r]) Q E s := by
  refine callType_codes (Q₁ := fun obj s₁ => s₁.TypeIs obj "tuple" ∧ Q obj s₁) F.called_tuple (F.typeCall_tuple_1 _) F.entry_object_init
    (code_tuple_src K (show A.in1.handled = none from hh) hok hsz K.notTuple fun h' tk acc hm hz hacc => ⟨⟨_, Heap.get?_push_size _ rfl, rfl⟩, hQ h' tk acc hm hz hacc⟩) fun obj s₁ h₁ => ?_
  exact ⟨h₁.1, F.args_object_init_2 obj _, object_init_meets F.called_tuple.init.lookup F.called_tuple.made (by decide) prog w A.in1 _ s₁ ⟨h₁.1, rfl, h₁.2⟩⟩
end
end PySem
namespace L2
open PySem PySem.Spec PyProof.Rows
def rTupD : List V → Hp → VK → Prop := fun xs H Q => ∃ p kvs, xs = [.ref p] ∧ H p = some (.dK kvs) ∧ ∀ q o, H q = none → L3.TObj o → Q (.ref q) (upd H q (.frz o (.tup (kvs.map fun kv => kV kv.1))))
theorem call_tuple_dK {X : Cx} (hc : X.calm = true) : CallR X (.type "tuple") rTupD := by
  intro pins s σ H xs us Q I r h
  obtain ⟨p, kvs, e, hk, q⟩ := h
  subst e
  obtain ⟨u, eu, rx⟩ := vals1 r
  subst eu
  obtain rfl : u = Value.ref p := rx
  obtain ⟨z, lo, vs, rk, hd⟩ := (show ObjOk X.prog X.w H s.heap p (.dK kvs) from I.hok p _ hk)
  obtain ⟨ep, hat⟩ := hd.dictAt
  have hl : kvs.length = vs.length := Paired.length rk
  refine call_tuple_src (PySem.W.kdl_dict (knd := mixKind X.prog X.w) (kvs := vs) (ep := ep) lo) (I.ok.hd hc) hat (by rw [← hl]; exact z) fun h' tk acc hkeep lz hacc => ?_
  refine ⟨.ref h'.objs.size, upd H h'.objs.size (.frz { cls := .type "tuple", data := .seq acc } (.tup (kvs.map fun kv => kV kv.1))), I.laid (t' := tk) (fun b o e => Heap.get?_push_of_some _ (hkeep b o e)) lz (show ObjOk X.prog X.w _ _ _ (.frz _ (.tup (kvs.map fun kv => kV kv.1))) from ⟨Heap.get?_push_size _ rfl, ?_, acc.toList, ?_, ?_⟩), rfl, q _ _ (I.hok.fresh lz) ⟨rfl, rfl⟩⟩
  · rw [List.length_map]; exact z
  · have el : acc.toList.length = acc.size := by simp
    refine vals_of_at (by rw [List.length_map, el, hacc.1, hl]) fun j x w h1 h2 => ?_
    obtain ⟨k, y, hky, hi⟩ := hacc.2 j w (by rw [← Array.getElem?_toList]; exact h2)
    have e1 : (kvs.map (·.1))[j]? = some k := by
      rw [KV.keys rk, List.getElem?_map, hky] <;> rfl
    have e2 : (kvs.map fun kv => kV kv.1)[j]? = some (kV k) := by
      have e3 : (kvs.map fun kv => kV kv.1) = (kvs.map (·.1)).map kV := by rw [List.map_map] <;> rfl
      rw [e3, List.getElem?_map, e1] <;> rfl
    rw [e2] at h1
    cases h1
    exact keyIs_rel hi
  · rw [Array.toArray_toList]; exact IsTup.new _ _
end L2

/-! a dict displayed: {k: v, ..} -/
namespace L3
open PySem PySem.Spec PyProof.Rows L2
def wPairs : List (WX × WX) → Rho → Mu → (List (Key × U) → Mu → Prop) → Prop
  | [], _, μ, P => P [] μ
  | (wk, wv) :: r, ρ, μ, P => wk ρ μ fun k μ1 => wv ρ μ1 fun v μ2 => wPairs r ρ μ2 fun kvs μ3 => ∃ j, k = kU j ∧ P ((j, v) :: kvs) μ3
def wDisp (ws : List (WX × WX)) : WX := fun ρ μ P => ∀ p, μ p = none → wPairs ws ρ (put μ p (.dct [])) fun kvs μ2 => μ2 p = some (.dct []) ∧ kvs.length ≤ 15 ∧ P (.r p) (put μ2 p (.dct (mergeU [] kvs)))
def RPs (K : Fg) (trs : List (TE × TE)) (ws : List (WX × WX)) : Prop := ∀ (F G H : Hp) (μ : Mu) (σ : L2.St) (ρ : Rho) (P : List (Key × U) → Mu → Prop) (Q : List (V × V) → Hp → Prop), Sim K F G H μ σ ρ → wPairs ws ρ μ P →
  (∀ kws kvs G' H' μ', Ext G G' → St3 K F G' H' μ' → Rkv K G' kws kvs → P kvs μ' → Q (kws.map fun kv => (kV kv.1, kv.2)) H') → tPairs trs σ H Q
structure WPs (X : Cx) (pos : Pos) (keys : List (Option Expr)) (values : List Expr) (trs : List (TE × TE)) (ws : List (WX × WX)) : Prop where
  pp : PPs X pos keys values trs
  rp : RPs X.K trs ws
section
variable {K : Fg} {X : Cx} {pos : Pos}
theorem w_pnil : WPs X pos [] [] [] [] := ⟨pps_nil, fun F G H μ σ ρ P Q S w q => q [] [] G H μ (Ext.refl G) S.st .nil w⟩
theorem w_pcons {k v : Expr} {ks : List (Option Expr)} {vs : List Expr} {tk tv : TE} {wk wv : WX} {trs : List (TE × TE)} {ws : List (WX × WX)} (hk : WE X k tk wk) (hv : WE X v tv wv) (hr : WPs X pos ks vs trs ws) :
    WPs X pos (some k :: ks) (v :: vs) ((tk, tv) :: trs) ((wk, wv) :: ws) := ⟨pps_cons hk.pe hv.pe hr.pp, fun F G H μ σ ρ P Q S w q => hk.re F G H μ σ ρ _ _ S w fun x xu G1 H1 μ1 e1 S1 r1 w1 =>
  hv.re F G1 H1 μ1 σ ρ _ _ (S.mono e1 S1) w1 fun y yu G2 H2 μ2 e2 S2 r2 w2 => hr.rp F G2 H2 μ2 σ ρ _ _ (S.mono (e1.trans e2) S2) w2 fun kws kvs G3 H3 μ3 e3 S3 r3 ⟨j, ej, p⟩ => by
    subst ej
    have ex : x = kV j := ru_key ((r1.mono e2).mono e3)
    subst ex
    exact q ((j, y) :: kws) ((j, yu) :: kvs) G3 H3 μ3 ((e1.trans e2).trans e3) S3 (.cons (r2.mono e3) r3) p⟩
theorem w_disp {keys : List (Option Expr)} {values : List Expr} {trs : List (TE × TE)} {ws : List (WX × WX)} (h : WPs X pos keys values trs ws) (hall : keys.all (·.isSome) = true := by rfl) (hl : keys.length = values.length := by rfl) (h0 : keys ≠ [] := by simp) (h15 : keys.length ≤ 15 := by decide) :
    WE X (.Dict keys values pos) (tDisp trs) (wDisp ws) := ⟨pe_disp h.pp hall hl h0 h15, fun F G H μ σ ρ P Q S w q => fun p hp => by
  have S1 : St3 X.K F G (upd H p (.dK [])) (put μ p (.dct [])) := S.st.newM (m := .dct []) hp ⟨[], upd_same, .nil⟩
  refine h.rp F G _ _ σ ρ _ _ (S.mono (Ext.refl G) S1) (w p (S.st.mnone hp)) fun kws kvs G1 H1 μ1 e1 S2 r1 ⟨hm, hz, p1⟩ => ?_
  obtain ⟨_, kw0, k1, k2⟩ := S2.mu _ _ hm
  cases k2
  refine ⟨k1, kws, rfl, by rw [rkv_len r1]; exact hz, ?_⟩
  have S3 : St3 X.K F G1 (upd H1 p (.dK (mergeK [] kws))) (put μ1 p (.dct (mergeU [] kvs))) := S2.write (m' := .dct (mergeU [] kvs)) hm ⟨_, upd_same, rkv_merge .nil r1⟩
  exact q (.ref p) (.r p) G1 _ _ e1 S3 rfl p1⟩
end
/-! ### list(d), tuple(d) -/
def kD : Key → PyData
  | .inl i => .int i
  | .inr x => .str x
def qListD : WQ := fun us μ P => ∃ (a : Addr) (kvs : List (Key × U)), us = [.r a] ∧ μ a = some (.dct kvs) ∧ P (.d (.list (kvs.map fun kv => kD kv.1))) μ
def qTupD : WQ := fun us μ P => ∃ (a : Addr) (kvs : List (Key × U)), us = [.r a] ∧ μ a = some (.dct kvs) ∧ P (.d (.tuple (kvs.map fun kv => kD kv.1))) μ
section
variable {K : Fg} {X : Cx} {p pos : Pos} {e : Expr} {es : List Expr} {t : TA} {w : WL}
theorem rps_keys {G : Hp} : ∀ {vs : List (Key × V)} {us : List (Key × U)}, Rkv K G vs us → Rps K G (vs.map fun kv => kV kv.1) (us.map fun kv => kD kv.1)
  | _, _, .nil => .nil
  | _, _, .cons (k := k) _ t => .cons (by cases k with
    | inl i => exact Rp.int i
    | inr x => exact Rp.str x) (rps_keys t)
theorem rq_listD : RQ K rListD qListD := fun F G H μ vs us P Q S r ⟨a, kvs, e, hm, p⟩ q => by
  subst e
  obtain ⟨v, rfl, q1⟩ := rus1 r
  obtain ⟨_, kws, h1, h2⟩ := S.mu _ _ hm
  have ev : v = .ref a := q1
  subst ev
  refine ⟨a, kws, rfl, h1, fun c hc => ?_⟩
  obtain ⟨e2, S2⟩ := S.newG (o := .lst (kws.map fun kv => kV kv.1)) hc
  exact q (.ref c) (.d (.list (kvs.map fun kv => kD kv.1))) _ _ μ e2 S2 (Rp.lst (SqL.of upd_same) ((rps_keys h2).mono e2)) p
theorem rq_tupD : RQ K rTupD qTupD := fun F G H μ vs us P Q S r ⟨a, kvs, e, hm, p⟩ q => by
  subst e
  obtain ⟨v, rfl, q1⟩ := rus1 r
  obtain ⟨_, kws, h1, h2⟩ := S.mu _ _ hm
  have ev : v = .ref a := q1
  subst ev
  refine ⟨a, kws, rfl, h1, fun c o hc to => ?_⟩
  obtain ⟨e2, S2⟩ := S.newG (o := .frz o (.tup (kws.map fun kv => kV kv.1))) hc
  exact q (.ref c) (.d (.tuple (kvs.map fun kv => kD kv.1))) _ _ μ e2 S2 (Rp.tup (.new to) ((rps_keys h2).mono e2)) p
def w_listD (hc : X.calm = true) (hg : Gl X "list") (hm : X.mg "list" = none) (ha : WAr X (e :: es) t w) (he : starEach (e :: es) X.env = (false, eval e X.env) :: starEach es X.env := by rfl) (hpl : (backTo pos (starEach es X.env)).any (·.1) = false := by rfl) := show WE X (.Call (.Name "list" p) (e :: es) [] pos) _ (wQ qListD w) from w_qt (call_list_dK hc) rq_listD hg hm boot_list' ha (by decide) (by decide) he hpl
def w_tupleD (hc : X.calm = true) (hg : Gl X "tuple") (hm : X.mg "tuple" = none) (ha : WAr X (e :: es) t w) (he : starEach (e :: es) X.env = (false, eval e X.env) :: starEach es X.env := by rfl) (hpl : (backTo pos (starEach es X.env)).any (·.1) = false := by rfl) := show WE X (.Call (.Name "tuple" p) (e :: es) [] pos) _ (wQ qTupD w) from w_qt (call_tuple_dK hc) rq_tupD hg hm boot_tuple' ha (by decide) (by decide) he hpl
end
/-! ### a statement that goes over a dict -/
def wLockS (w : WSt) : WSt := fun B ρ μ => ∃ (a : Addr) (kvs : List (Key × U)), μ a = some (.dct kvs) ∧ ∀ od kws, w
  { nx := fun ρ' μ' => μ' a = some (.lck od kws kvs) ∧ B.nx ρ' (put μ' a (.dct kvs)), rt := fun u μ' => μ' a = some (.lck od kws kvs) ∧ B.rt u (put μ' a (.dct kvs)),
    bk := fun ρ' μ' => μ' a = some (.lck od kws kvs) ∧ B.bk ρ' (put μ' a (.dct kvs)), ct := fun ρ' μ' => μ' a = some (.lck od kws kvs) ∧ B.ct ρ' (put μ' a (.dct kvs)) } ρ (put μ a (.lck od kws kvs))
section
variable {K : Fg} {X : Cx}
theorem unlock3 {F G H : Hp} {μ : Mu} {a : Addr} {od : Obj} {kws : List (Key × V)} {kvs : List (Key × U)} (S : St3 K F G H μ) (hm : μ a = some (.lck od kws kvs)) : H a = some (.frz od (.dK kws)) ∧ St3 K F G (upd H a (.dK kws)) (put μ a (.dct kvs)) := by
  obtain ⟨_, k1, k2⟩ := S.mu _ _ hm
  exact ⟨k1, S.write (m' := .dct kvs) hm ⟨kws, upd_same, k2⟩⟩
theorem rs_lock {t : TS} {w : WSt} (h : RS K t w) : RS K (tLock t) (wLockS w) := fun F G H μ σ ρ D B S L ⟨a, kvs, hm, hw⟩ => by
  obtain ⟨_, kws, h1, h2⟩ := S.st.mu _ _ hm
  refine ⟨a, .dK kws, h1, trivial, fun od => ?_⟩
  have S2 : St3 K F G (upd H a (.frz od (.dK kws))) (put μ a (.lck od kws kvs)) := S.st.write (m' := .lck od kws kvs) hm ⟨upd_same, h2⟩
  refine h F G _ _ σ ρ _ _ (S.mono (Ext.refl G) S2) ⟨?_, ?_, ?_, ?_⟩ (hw od kws)
  · exact fun σ G' H ρ μ e S3 ⟨hm1, b⟩ => let ⟨k1, S4⟩ := unlock3 S3.st hm1; ⟨k1, L.nx σ G' _ ρ _ e (S3.mono (Ext.refl _) S4) b⟩
  · exact fun v u G' H μ e S3 r ⟨hm1, b⟩ => let ⟨k1, S4⟩ := unlock3 S3 hm1; ⟨k1, L.rt v u G' _ _ e S4 r b⟩
  · exact fun σ G' H ρ μ e S3 ⟨hm1, b⟩ => let ⟨k1, S4⟩ := unlock3 S3.st hm1; ⟨k1, L.bk σ G' _ ρ _ e (S3.mono (Ext.refl _) S4) b⟩
  · exact fun σ G' H ρ μ e S3 ⟨hm1, b⟩ => let ⟨k1, S4⟩ := unlock3 S3.st hm1; ⟨k1, L.ct σ G' _ ρ _ e (S3.mono (Ext.refl _) S4) b⟩
theorem w_lockS {st : Stmt} {t : TS} {w : WSt} (h : WS X st t w) : WS X st (tLock t) (wLockS w) := ⟨ps_lock h.ps, rs_lock h.rs⟩
end
end L3

/-! xs = xs + ys where xs is changed later: a new thing that may change; what is left behind may be forgotten with the assignment -/
namespace L3
open PySem PySem.Spec PyProof.Rows L2
def sCatM : WR := fun u w μ P => ∃ xs ys : List U, listU μ u = some xs ∧ listU μ w = some ys ∧ xs.length + ys.length ≤ sizeLine ∧ ∀ p, μ p = none → P (.r p) (put μ p (.lst (xs ++ ys)))
def wAsgF (w : WX) (g : WTg) : WSt := fun B ρ μ => w ρ μ fun u μ1 => g u ρ μ1 fun ρ2 μ2 => ∃ μ3 : Mu, (∀ a m, μ3 a = some m → μ2 a = some m) ∧ B.nx ρ2 μ3
section
variable {K : Fg} {X : Cx} {pos : Pos} {a b e : Expr} {ta tb te : TE} {wa wb we : WX}
theorem ro_catM : RO K (rCatW K) sCatM := fun F G H μ x y u w P Q S rx ry ⟨xs, ys, h1, h2, z, pp⟩ q => by
  obtain ⟨a, vs, rfl, k1, r1⟩ := listU_ok S rx h1
  obtain ⟨b, ws, rfl, k2, r2⟩ := listU_ok S ry h2
  refine ⟨a, b, vs, ws, rfl, rfl, k1, k2, by rw [r1.length, r2.length]; exact z, fun p hp => ?_⟩
  exact q (.ref p) (.r p) G _ _ (Ext.refl G) (S.newM (m := .lst (xs ++ ys)) hp ⟨vs ++ ws, upd_same, r1.append r2⟩) rfl (pp p (S.mnone hp))
theorem w_catM (ha : WE X a ta wa) (hb : WE X b tb wb) : WE X (.BinOp a .Add b pos) (tOp (rCatW X.K) ta tb) (wOp sCatM wa wb) := w_bin op_catW ro_catM ha hb
theorem rs_asgF {g : TG} {wg : WTg} (h : RE K te we) (k : RG K g wg) : RS K (tAsg te g) (wAsgF we wg) := fun F G H μ σ ρ D B S L w => h F G H μ σ ρ _ _ S w fun v u G1 H1 μ1 e1 S1 r1 p =>
  k F G1 H1 μ1 σ ρ v u _ _ (S.mono e1 S1) r1 p fun σ2 G2 H2 ρ2 μ2 e2 S2 ⟨μ3, kp, p2⟩ => L.nx σ2 G2 H2 ρ2 μ3 (e1.trans e2) (S2.mono (Ext.refl _) (S2.st.less kp)) p2
theorem w_setF (i : Nat) {x : Str} {pos' : Pos} (hN : X.N.Nodup) (h : WE X e te we) (hi : X.N[i]? = some x := by rfl) (hx : Loc X.env.scope x := by first | exact Or.inl rfl | exact Or.inr rfl) (hs : swapsWith e (some (.Name x pos')) pos.line X.env = pure false := by rfl)
    (hf : X.fn x = true ∨ X.env.scope.names.lookup x = some .local := by first | exact .inl rfl | exact .inr rfl) : WS X (.Assign [.Name x pos'] e pos) (tAsg te (gName i)) (wAsgF we (gN i)) := ⟨ps_set hN hi hx h.pe hs hf, rs_asgF h.re rg_name⟩
end
end L3

/-! list(x), x a list, a tuple or a text; the list stays changeable -/
namespace L3
open PySem PySem.Spec PyProof.Rows L2
def signV (x : Str) : List V := x.cps.toList.map fun c => .str ⟨#[c]⟩
abbrev rListA (K : Fg) : List V → Hp → VK → Prop := fun xs H Q => (∃ p ys, xs = [.ref p] ∧ (SqL K H p ys ∨ SqT K H p ys) ∧ ∀ l, H l = none → Q (.ref l) (upd H l (.lst ys))) ∨ ∃ x, xs = [.str x] ∧ x.cps.size ≤ sizeLine ∧ ∀ l, H l = none → Q (.ref l) (upd H l (.lst (signV x)))
theorem call_listS {X : Cx} (hc : X.calm = true) : CallR X (.type "list") (fun xs H Q => ∃ x, xs = [.str x] ∧ x.cps.size ≤ sizeLine ∧ ∀ l, H l = none → Q (.ref l) (upd H l (.lst (signV x)))) := by
  intro pins s σ H xs us Q I r h
  obtain ⟨x, rfl, hz, q⟩ := h
  obtain ⟨u, rfl, t, rfl⟩ := vals1 r
  refine call_list_str (I.ok.hd hc) x t (fun h' tk acc' c' hk e hi => ?_) hz
  have hl : (signV x).length = x.cps.size := by simp [signV]
  have v : Vals (signV x) acc'.toList := by
    refine vals_of_at (by rw [hl, Array.length_toList, hi.1]) fun j y u h1 h2 => ?_
    obtain ⟨c, t', h3, rfl⟩ := hi.2 j u (by rw [← h2, Array.getElem?_toList])
    unfold signV at h1
    rw [List.getElem?_map, Array.getElem?_toList, h3] at h1
    cases h1
    exact ⟨t', rfl⟩
  refine ⟨.ref s.heap.objs.size, _, I.laid (t' := tk) hk (Nat.le_refl _) (show ObjOk X.prog X.w _ h' _ (.lst (signV x)) from ⟨by rw [hl]; exact hz, acc'.toList, c', v, ?_⟩), rfl, q _ (I.hok.fresh (Nat.le_refl _))⟩
  rw [Array.toArray_toList]; exact e
def itemsA (μ : Mu) : U → Option (List U)
  | .d (.str x) => if x.cps.size ≤ sizeLine then some (signs x) else none
  | u => itemsU μ u
def qListMA : WQ := fun us μ P => ∃ (u : U) (ws : List U), us = [u] ∧ itemsA μ u = some ws ∧ ∀ p, μ p = none → P (.r p) (put μ p (.lst ws))
theorem rus_signs {K : Fg} {G : Hp} (x : Str) : Rus K G (signV x) (signs x) := by
  unfold signV signs
  generalize x.cps.toList = l
  induction l with
  | nil => exact .nil
  | cons c l ih => exact .cons (Rp.str _) ih
theorem rq_listMA {K : Fg} : RQ K (rListA K) qListMA := fun F G H μ vs us P Q S r ⟨u, ws, e, hi, p⟩ q => by
  subst e
  have go : itemsU μ u = some ws → rListA K vs H Q := fun hi => .inl (rq_listM F G H μ vs [u] P Q S r ⟨u, ws, rfl, hi, p⟩ q)
  cases u with
  | r a => exact go hi
  | d d =>
    cases d with
    | str x =>
      have hi : (if x.cps.size ≤ sizeLine then some (signs x) else none) = some ws := hi
      obtain ⟨v, rfl, q1⟩ := rus1 r
      rw [rp_str q1]
      by_cases hz : x.cps.size ≤ sizeLine
      · rw [if_pos hz] at hi
        cases hi
        exact .inr ⟨x, rfl, hz, fun l hl => q (.ref l) (.r l) G _ _ (Ext.refl G) (S.newM (m := .lst (signs x)) hl ⟨signV x, upd_same, rus_signs x⟩) rfl (p l (S.mnone hl))⟩
      · rw [if_neg hz] at hi
        cases hi
    | _ => exact go hi
section
variable {K : Fg} {X : Cx} {p pos : Pos} {e : Expr} {es : List Expr} {t : TA} {w : WL}
def w_listcMA (hc : X.calm = true) (hg : Gl X "list") (hm : X.mg "list" = none) (ha : WAr X (e :: es) t w) (he : starEach (e :: es) X.env = (false, eval e X.env) :: starEach es X.env := by rfl) (hpl : (backTo pos (starEach es X.env)).any (·.1) = false := by rfl) := show WE X (.Call (.Name "list" p) (e :: es) [] pos) _ (wQ qListMA w) from w_qt (CallR.or call_list_of (call_listS hc)) rq_listMA hg hm boot_list ha (by decide) (by decide) he hpl
end
end L3

namespace K01
open PySem PySem.Spec PyProof.Rows L2 L3
def topS (i : Nat) : Stmt := PySem.Challenge.pw_eacharm_k01_settings_of_a_condition.main.body.getD i (.Pass ⟨0, 0, 0, 0⟩)

/-! ### count_settings -/
abbrev s_p_count_settings : Stmt := topS 1
abbrev N_p_count_settings : List Str := ["condition", "switches"]
theorem sc_p_count_settings : FnScope N_p_count_settings ["condition", "switches"] (defScope s_p_count_settings) := ⟨rfl, rfl, rfl, by decide +kernel, rfl, by decide +kernel, by decide +kernel⟩
def W_p_count_settings (S_p__count : WF) : WSt :=
  (wRet (wCall S_p__count (wCons (wV 0) (wCons (wLenSet (wV 1)) wNil))))
theorem body_p_count_settings {P : Program} {w : World} {K : Fg} {mg : Str → Option Value} {base : Heap} {k : Nat} {k_p__count : Nat} {S_p__count : WF} (c_p__count : C8.Cal P w K mg base k_p__count "_count" (sp3 K S_p__count) []) (h_p__count : k_p__count ≤ k) (m_len : mg "len" = none) (m_set : mg "set" = none)
    (cdv : Value) (f : Addr) (A : Around) (outer : List Env) (sh : Shared) (H : Hp) (E : XK) (hr : Room k (A.deeper (envOfC "count_settings" (defScope s_p_count_settings) sh.heap.objs.size f cdv))) :
    ∃ t, WSs (cxOf CX0 P w K mg base N_p_count_settings "count_settings" (defScope s_p_count_settings) f cdv A outer sh H E).nox (defBody s_p_count_settings) t (W_p_count_settings S_p__count) := by
  have nd := sc_p_count_settings.nd
  exact ⟨_, (w_sone (w_ret (w_call c_p__count hr h_p__count (by rfl) (w_cons (w_v 0) (w_cons (w_lenSet rfl (by rfl) m_len (by rfl) m_set (w_v 1)) w_nil)))))⟩
theorem bi_p_count_settings {K : Fg} {f : Addr} {fd : FuncData} (Fd : FunD K "count_settings" "count_settings" (defArgs s_p_count_settings) (defBody s_p_count_settings) (defScope s_p_count_settings) [] [] f fd) : Binds K fd ["condition", "switches"] [] := FunD.bindsN Fd fun _ _ _ _ _ _ us hl => match us, hl with | [_, _], _ => rfl
theorem z_p_count_settings {P : Program} {w : World} {K : Fg} {mg : Str → Option Value} {base : Heap} (D : Dn K mg "count_settings" s_p_count_settings) : C8.Cal P w K mg base 0 "count_settings" (sp3 K fun _ _ _ => False) [] := D.zero bi_p_count_settings
theorem fok_p_count_settings {P : Program} {w : World} {K : Fg} {mg : Str → Option Value} {base : Heap} {k : Nat} {f : Addr} {fd : FuncData} (Fd : FunD K "count_settings" "count_settings" (defArgs s_p_count_settings) (defBody s_p_count_settings) (defScope s_p_count_settings) [] [] f fd) {k_p__count : Nat} {S_p__count : WF} (c_p__count : C8.Cal P w K mg base k_p__count "_count" (sp3 K S_p__count) []) (h_p__count : k_p__count ≤ k) (m_len : mg "len" = none) (m_set : mg "set" = none) {s : WF} (len : ∀ us μ Q, s us μ Q → us.length = 2)
    (h : ∀ us μ Q, s us μ Q → W_p_count_settings S_p__count (E3 μ Q) (start3 N_p_count_settings us) μ) :
    FnOk P w K mg base C8.CX0 (k + 1) f fd ["condition", "switches"] (sp3 K s) :=
  fn3F Fd sc_p_count_settings len fun cdv A outer sh H E hr =>
    let ⟨t, ht⟩ := body_p_count_settings c_p__count h_p__count m_len m_set cdv f A outer sh H E hr
    ⟨t, _, ht, h⟩
theorem cal_p_count_settings {P : Program} {w : World} {K : Fg} {mg : Str → Option Value} {base : Heap} {k : Nat} (D : Dn K mg "count_settings" s_p_count_settings) {k_p__count : Nat} {S_p__count : WF} (c_p__count : C8.Cal P w K mg base k_p__count "_count" (sp3 K S_p__count) []) (h_p__count : k_p__count ≤ k) (m_len : mg "len" = none) (m_set : mg "set" = none) {s : WF} (len : ∀ us μ Q, s us μ Q → us.length = 2)
    (h : ∀ us μ Q, s us μ Q → W_p_count_settings S_p__count (E3 μ Q) (start3 N_p_count_settings us) μ) :
    C8.Cal P w K mg base (k + 1) "count_settings" (sp3 K s) [] := by
  obtain ⟨f, fd, Fd, hmg⟩ := D.ex
  exact ⟨f, fd, _, [], fok_p_count_settings Fd c_p__count h_p__count m_len m_set len h, hmg, Fd.kp, bi_p_count_settings Fd, .nil⟩

/-! ### all_settings -/
abbrev s_p_all_settings : Stmt := topS 2
abbrev N_p_all_settings : List Str := ["switches", "names", "code", "on", "at", "name"]
theorem sc_p_all_settings : GScope N_p_all_settings ["switches"] (defScope s_p_all_settings) := ⟨rfl, rfl, rfl, by decide +kernel, rfl, by decide +kernel, by decide +kernel⟩
def W_p_all_settings : WGst :=
  (wGSeq (wGPl (wAsg (wSortSetM (wV 0)) (gN 1)))
  (wGSeq (wGPl (wDrop (wML mReverse (wV 1) wNil)))
  (wGSeq (wGFor (jRng1 (wCons (wOp sShl (wC (.int 1)) (wQ qLenA (wCons (wV 1) wNil))) wNil)) (gN 2) (wGSeq (wGPl (wAsg (wLc (jEnumA (wCons (wV 1) wNil)) [4, 5] (gT [(gN 4), (gN 5)]) (wTru (wOp sBand (wOp sShr (wV 2) (wV 4)) (wC (.int 1)))) (wV 5)) (gN 3)))
  (wGSeq (wGYield (wQ qTuple (wCons (wRevS (wV 3) (wNeg (wC (.int 1)))) wNil)))
  wGNil)))
  wGNil)))
theorem body_p_all_settings {P : Program} {w : World} {K : Fg} {mg : Str → Option Value} {base : Heap} {k : Nat} (m_len : mg "len" = none) (m_range : mg "range" = none) (m_tuple : mg "tuple" = none) (m_enumerate : mg "enumerate" = none) (m_sorted : mg "sorted" = none) (m_set : mg "set" = none)
    (cdv : Value) (f : Addr) (A : Around) (outer : List Env) (sh : Shared) (H : Hp) (E : XK) (pn : List (Addr × Obj)) (hr : Room k (A.deeper (envOfC "all_settings" (defScope s_p_all_settings) sh.heap.objs.size f cdv))) :
    ∃ t, WZs (gcxOf P w K mg base N_p_all_settings "all_settings" (defScope s_p_all_settings) f cdv A outer sh H E pn) (defBody s_p_all_settings) t W_p_all_settings := by
  have nd := sc_p_all_settings.nd
  exact ⟨_, (wz_cons (wz_plN (w_set 1 nd (w_sortSetM rfl hr.units (by rfl) m_sorted (by rfl) m_set (w_v 0))))
 (wz_cons (wz_plN (w_expr (w_reverse (w_v 1))))
 (wz_cons (wz_forN owns_gcx rfl (w_rng1 (by rfl) m_range (w_cons (w_shl w_int (w_len (by rfl) m_len (w_cons (w_v 1) w_nil))) w_nil)) (w_gn 2 nd) (wz_cons (wz_plN (w_setLcN 3 [("at", 4), ("name", 5)] [4, 5] rfl rfl nd (sw_true rfl rfl rfl (by decide +kernel)) (w_enumA (by rfl) m_enumerate (w_cons (w_v 1) w_nil)) (blkOk_by (N := N_p_all_settings) (sc := defScope s_p_all_settings) (by decide +kernel)) (go_tup (gso_consN (by decide) (gso_consN (by decide) gso_nil))) (w_gtup rfl (w_gcons (w_gn 4 nd) (w_gcons (w_gn 5 nd) w_gnil))) (w_tsone (w_tru (w_band (w_shr (w_v 2) (w_v 4)) w_int))) (w_v 5) (fun _ _ _ _ _ => (w_gtup rfl (w_gcons (w_gn 4 nd) (w_gcons (w_gn 5 nd) w_gnil)))) (fun _ _ _ _ _ => (w_tsone (w_tru (w_band (w_shr (w_v 2) (w_v 4)) w_int)))) (fun _ _ _ _ _ => (w_v 5))))
 (wz_cons (wz_yieldN (w_tuplec (by rfl) m_tuple (w_cons (w_revS (w_v 3) (w_neg w_int)) w_nil)))
 wz_nil)))
 wz_nil)))⟩
theorem bi_p_all_settings {K : Fg} {f : Addr} {fd : FuncData} (Fd : FunD K "all_settings" "all_settings" (defArgs s_p_all_settings) (defBody s_p_all_settings) (defScope s_p_all_settings) [] [] f fd) : Binds K fd ["switches"] [] := FunD.bindsN Fd fun _ _ _ _ _ _ us hl => match us, hl with | [_], _ => rfl
theorem cal_p_all_settings {P : Program} {w : World} {K : Fg} {mg : Str → Option Value} {base : Heap} {k : Nat} (D : Dn K mg "all_settings" s_p_all_settings) (m_len : mg "len" = none) (m_range : mg "range" = none) (m_tuple : mg "tuple" = none) (m_enumerate : mg "enumerate" = none) (m_sorted : mg "sorted" = none) (m_set : mg "set" = none) {s : WFG} (len : ∀ us μ Q, s us μ Q → us.length = 1)
    (h : ∀ us μ Q, s us μ Q → W_p_all_settings ⟨fun ws _ μ' => Q ws μ', fun ws u μ' => u = .d .none ∧ Q ws μ', fun _ _ _ => False, fun _ _ _ => False⟩ [] (start3 N_p_all_settings us) μ) :
    CalG P w K mg base (k + 1) "all_settings" (spG3 K s) := by
  obtain ⟨f, fd, Fd, hmg⟩ := D.ex
  exact calG_of Fd sc_p_all_settings hmg (bi_p_all_settings Fd) len fun cdv A outer sh H E pn hr => let ⟨t, ht⟩ := body_p_all_settings m_len m_range m_tuple m_enumerate m_sorted m_set cdv f A outer sh H E pn hr; ⟨t, _, ht, h⟩

/-! ### from_settings -/
abbrev s_p_from_settings : Stmt := topS 3
abbrev N_p_from_settings : List Str := ["settings", "switches"]
theorem sc_p_from_settings : FnScope N_p_from_settings ["settings", "switches"] (defScope s_p_from_settings) := ⟨rfl, rfl, rfl, by decide +kernel, rfl, by decide +kernel, by decide +kernel⟩
def W_p_from_settings (S_p__listed : WF) : WSt :=
  (wRet (wCall S_p__listed (wCons (wV 0) (wCons (wSortSet (wV 1)) (wCons (wC (.int 0)) wNil)))))
theorem body_p_from_settings {P : Program} {w : World} {K : Fg} {mg : Str → Option Value} {base : Heap} {k : Nat} {k_p__listed : Nat} {S_p__listed : WF} (c_p__listed : C8.Cal P w K mg base k_p__listed "_listed" (sp3 K S_p__listed) []) (h_p__listed : k_p__listed ≤ k) (m_sorted : mg "sorted" = none) (m_set : mg "set" = none)
    (cdv : Value) (f : Addr) (A : Around) (outer : List Env) (sh : Shared) (H : Hp) (E : XK) (hr : Room k (A.deeper (envOfC "from_settings" (defScope s_p_from_settings) sh.heap.objs.size f cdv))) :
    ∃ t, WSs (cxOf CX0 P w K mg base N_p_from_settings "from_settings" (defScope s_p_from_settings) f cdv A outer sh H E).nox (defBody s_p_from_settings) t (W_p_from_settings S_p__listed) := by
  have nd := sc_p_from_settings.nd
  exact ⟨_, (w_sone (w_ret (w_call c_p__listed hr h_p__listed (by rfl) (w_cons (w_v 0) (w_cons (w_sortSet rfl hr.units (by rfl) m_sorted (by rfl) m_set (w_v 1)) (w_cons w_int w_nil))))))⟩
theorem bi_p_from_settings {K : Fg} {f : Addr} {fd : FuncData} (Fd : FunD K "from_settings" "from_settings" (defArgs s_p_from_settings) (defBody s_p_from_settings) (defScope s_p_from_settings) [] [] f fd) : Binds K fd ["settings", "switches"] [] := FunD.bindsN Fd fun _ _ _ _ _ _ us hl => match us, hl with | [_, _], _ => rfl
theorem z_p_from_settings {P : Program} {w : World} {K : Fg} {mg : Str → Option Value} {base : Heap} (D : Dn K mg "from_settings" s_p_from_settings) : C8.Cal P w K mg base 0 "from_settings" (sp3 K fun _ _ _ => False) [] := D.zero bi_p_from_settings
theorem fok_p_from_settings {P : Program} {w : World} {K : Fg} {mg : Str → Option Value} {base : Heap} {k : Nat} {f : Addr} {fd : FuncData} (Fd : FunD K "from_settings" "from_settings" (defArgs s_p_from_settings) (defBody s_p_from_settings) (defScope s_p_from_settings) [] [] f fd) {k_p__listed : Nat} {S_p__listed : WF} (c_p__listed : C8.Cal P w K mg base k_p__listed "_listed" (sp3 K S_p__listed) []) (h_p__listed : k_p__listed ≤ k) (m_sorted : mg "sorted" = none) (m_set : mg "set" = none) {s : WF} (len : ∀ us μ Q, s us μ Q → us.length = 2)
    (h : ∀ us μ Q, s us μ Q → W_p_from_settings S_p__listed (E3 μ Q) (start3 N_p_from_settings us) μ) :
    FnOk P w K mg base C8.CX0 (k + 1) f fd ["settings", "switches"] (sp3 K s) :=
  fn3F Fd sc_p_from_settings len fun cdv A outer sh H E hr =>
    let ⟨t, ht⟩ := body_p_from_settings c_p__listed h_p__listed m_sorted m_set cdv f A outer sh H E hr
    ⟨t, _, ht, h⟩
theorem cal_p_from_settings {P : Program} {w : World} {K : Fg} {mg : Str → Option Value} {base : Heap} {k : Nat} (D : Dn K mg "from_settings" s_p_from_settings) {k_p__listed : Nat} {S_p__listed : WF} (c_p__listed : C8.Cal P w K mg base k_p__listed "_listed" (sp3 K S_p__listed) []) (h_p__listed : k_p__listed ≤ k) (m_sorted : mg "sorted" = none) (m_set : mg "set" = none) {s : WF} (len : ∀ us μ Q, s us μ Q → us.length = 2)
    (h : ∀ us μ Q, s us μ Q → W_p_from_settings S_p__listed (E3 μ Q) (start3 N_p_from_settings us) μ) :
    C8.Cal P w K mg base (k + 1) "from_settings" (sp3 K s) [] := by
  obtain ⟨f, fd, Fd, hmg⟩ := D.ex
  exact ⟨f, fd, _, [], fok_p_from_settings Fd c_p__listed h_p__listed m_sorted m_set len h, hmg, Fd.kp, bi_p_from_settings Fd, .nil⟩

/-! ### first_setting -/
abbrev s_p_first_setting : Stmt := topS 4
abbrev N_p_first_setting : List Str := ["condition", "on"]
theorem sc_p_first_setting : FnScope N_p_first_setting ["condition"] (defScope s_p_first_setting) := ⟨rfl, rfl, rfl, by decide +kernel, rfl, by decide +kernel, by decide +kernel⟩
def W_p_first_setting : WSt :=
  (wSeq (wIfS (wB (wOp (sIs false id) (wV 0) (wC (.bool false)))) (wRet (wC .none)) wNext)
  (wSeq (wAsg (wLstM wNil) (gN 1))
  (wSeq (wWhile (wTru (wIsi "tuple" (wV 0))) (wIfS (wB (wOp (sIs false id) (wOp sIx (wV 0) (wC (.int 2))) (wC (.bool false)))) (wSeq (wDrop (wML mAppend (wV 1) (wCons (wOp sIx (wV 0) (wC (.int 0))) wNil)))
  (wAsg (wOp sIx (wV 0) (wC (.int 1))) (gN 0))) (wAsg (wOp sIx (wV 0) (wC (.int 2))) (gN 0))))
  (wRet (wQ qTuple (wCons (wV 1) wNil))))))
theorem body_p_first_setting {P : Program} {w : World} {K : Fg} {mg : Str → Option Value} {base : Heap} {k : Nat} (m_isinstance : mg "isinstance" = none) (m_tuple : mg "tuple" = none)
    (cdv : Value) (f : Addr) (A : Around) (outer : List Env) (sh : Shared) (H : Hp) (E : XK) (hr : Room k (A.deeper (envOfC "first_setting" (defScope s_p_first_setting) sh.heap.objs.size f cdv))) :
    ∃ t, WSs (cxOf CX0 P w K mg base N_p_first_setting "first_setting" (defScope s_p_first_setting) f cdv A outer sh H E).nox (defBody s_p_first_setting) t (W_p_first_setting) := by
  have nd := sc_p_first_setting.nd
  exact ⟨_, (w_scons (w_ifS (w_isB (w_v 0)).t
 (w_sone (w_ret w_non))
 w_snil)
 (w_scons (w_set 1 nd (w_lstM w_nil))
 (w_scons (w_while PassesOwn.never (w_tru (w_isi (by rfl) m_isinstance boot_isinstance (by rfl) m_tuple boot_tuple' (w_v 0)))
 (w_sone (w_ifS (w_isB (w_ix (w_v 0) w_int)).t
 (w_scons (w_expr (w_append (w_v 1) (w_cons (w_ix (w_v 0) w_int) w_nil)))
 (w_sone (w_set 0 nd (w_ix (w_v 0) w_int))))
 (w_sone (w_set 0 nd (w_ix (w_v 0) w_int))))))
 (w_sone (w_ret (w_tuplec (by rfl) m_tuple (w_cons (w_v 1) w_nil)))))))⟩
theorem bi_p_first_setting {K : Fg} {f : Addr} {fd : FuncData} (Fd : FunD K "first_setting" "first_setting" (defArgs s_p_first_setting) (defBody s_p_first_setting) (defScope s_p_first_setting) [] [] f fd) : Binds K fd ["condition"] [] := FunD.bindsN Fd fun _ _ _ _ _ _ us hl => match us, hl with | [_], _ => rfl
theorem z_p_first_setting {P : Program} {w : World} {K : Fg} {mg : Str → Option Value} {base : Heap} (D : Dn K mg "first_setting" s_p_first_setting) : C8.Cal P w K mg base 0 "first_setting" (sp3 K fun _ _ _ => False) [] := D.zero bi_p_first_setting
theorem fok_p_first_setting {P : Program} {w : World} {K : Fg} {mg : Str → Option Value} {base : Heap} {k : Nat} {f : Addr} {fd : FuncData} (Fd : FunD K "first_setting" "first_setting" (defArgs s_p_first_setting) (defBody s_p_first_setting) (defScope s_p_first_setting) [] [] f fd) (m_isinstance : mg "isinstance" = none) (m_tuple : mg "tuple" = none) {s : WF} (len : ∀ us μ Q, s us μ Q → us.length = 1)
    (h : ∀ us μ Q, s us μ Q → W_p_first_setting (E3 μ Q) (start3 N_p_first_setting us) μ) :
    FnOk P w K mg base C8.CX0 (k + 1) f fd ["condition"] (sp3 K s) :=
  fn3F Fd sc_p_first_setting len fun cdv A outer sh H E hr =>
    let ⟨t, ht⟩ := body_p_first_setting m_isinstance m_tuple cdv f A outer sh H E hr
    ⟨t, _, ht, h⟩
theorem cal_p_first_setting {P : Program} {w : World} {K : Fg} {mg : Str → Option Value} {base : Heap} {k : Nat} (D : Dn K mg "first_setting" s_p_first_setting) (m_isinstance : mg "isinstance" = none) (m_tuple : mg "tuple" = none) {s : WF} (len : ∀ us μ Q, s us μ Q → us.length = 1)
    (h : ∀ us μ Q, s us μ Q → W_p_first_setting (E3 μ Q) (start3 N_p_first_setting us) μ) :
    C8.Cal P w K mg base (k + 1) "first_setting" (sp3 K s) [] := by
  obtain ⟨f, fd, Fd, hmg⟩ := D.ex
  exact ⟨f, fd, _, [], fok_p_first_setting Fd m_isinstance m_tuple len h, hmg, Fd.kp, bi_p_first_setting Fd, .nil⟩

/-! ### _node -/
abbrev s_p__node : Stmt := topS 5
abbrev N_p__node : List Str := ["switch", "on", "off"]
theorem sc_p__node : FnScope N_p__node ["switch", "on", "off"] (defScope s_p__node) := ⟨rfl, rfl, rfl, by decide +kernel, rfl, by decide +kernel, by decide +kernel⟩
def W_p__node : WSt :=
  (wRet (wIf (wB (wOp (sEqA id) (wV 1) (wV 2))) (wV 1) (wTup (wCons (wV 0) (wCons (wV 1) (wCons (wV 2) wNil))))))
theorem body_p__node {P : Program} {w : World} {K : Fg} {mg : Str → Option Value} {base : Heap} {k : Nat}
    (cdv : Value) (f : Addr) (A : Around) (outer : List Env) (sh : Shared) (H : Hp) (E : XK) (hr : Room k (A.deeper (envOfC "_node" (defScope s_p__node) sh.heap.objs.size f cdv))) :
    ∃ t, WSs (cxOf CX0 P w K mg base N_p__node "_node" (defScope s_p__node) f cdv A outer sh H E).nox (defBody s_p__node) t (W_p__node) := by
  have nd := sc_p__node.nd
  exact ⟨_, (w_sone (w_ret (w_if (w_eq hr.units (w_v 1) (w_v 2)).t (w_v 1) (w_tup (w_cons (w_v 0) (w_cons (w_v 1) (w_cons (w_v 2) w_nil)))))))⟩
theorem bi_p__node {K : Fg} {f : Addr} {fd : FuncData} (Fd : FunD K "_node" "_node" (defArgs s_p__node) (defBody s_p__node) (defScope s_p__node) [] [] f fd) : Binds K fd ["switch", "on", "off"] [] := FunD.bindsN Fd fun _ _ _ _ _ _ us hl => match us, hl with | [_, _, _], _ => rfl
theorem z_p__node {P : Program} {w : World} {K : Fg} {mg : Str → Option Value} {base : Heap} (D : Dn K mg "_node" s_p__node) : C8.Cal P w K mg base 0 "_node" (sp3 K fun _ _ _ => False) [] := D.zero bi_p__node
theorem fok_p__node {P : Program} {w : World} {K : Fg} {mg : Str → Option Value} {base : Heap} {k : Nat} {f : Addr} {fd : FuncData} (Fd : FunD K "_node" "_node" (defArgs s_p__node) (defBody s_p__node) (defScope s_p__node) [] [] f fd) {s : WF} (len : ∀ us μ Q, s us μ Q → us.length = 3)
    (h : ∀ us μ Q, s us μ Q → W_p__node (E3 μ Q) (start3 N_p__node us) μ) :
    FnOk P w K mg base C8.CX0 (k + 1) f fd ["switch", "on", "off"] (sp3 K s) :=
  fn3F Fd sc_p__node len fun cdv A outer sh H E hr =>
    let ⟨t, ht⟩ := body_p__node cdv f A outer sh H E hr
    ⟨t, _, ht, h⟩
theorem cal_p__node {P : Program} {w : World} {K : Fg} {mg : Str → Option Value} {base : Heap} {k : Nat} (D : Dn K mg "_node" s_p__node) {s : WF} (len : ∀ us μ Q, s us μ Q → us.length = 3)
    (h : ∀ us μ Q, s us μ Q → W_p__node (E3 μ Q) (start3 N_p__node us) μ) :
    C8.Cal P w K mg base (k + 1) "_node" (sp3 K s) [] := by
  obtain ⟨f, fd, Fd, hmg⟩ := D.ex
  exact ⟨f, fd, _, [], fok_p__node Fd len h, hmg, Fd.kp, bi_p__node Fd, .nil⟩

/-! ### _count -/
abbrev s_p__count : Stmt := topS 6
abbrev N_p__count : List Str := ["condition", "free"]
theorem sc_p__count : FnScope N_p__count ["condition", "free"] (defScope s_p__count) := ⟨rfl, rfl, rfl, by decide +kernel, rfl, by decide +kernel, by decide +kernel⟩
def W_p__count (S_p__count : WF) : WSt :=
  (wSeq (wIfS (wNot (wTru (wIsi "tuple" (wV 0)))) (wRet (wIf (wTru (wV 0)) (wOp sShl (wC (.int 1)) (wV 1)) (wC (.int 0)))) wNext)
  (wRet (wOp sAdd (wCall S_p__count (wCons (wOp sIx (wV 0) (wC (.int 1))) (wCons (wOp sSub (wV 1) (wC (.int 1))) wNil))) (wCall S_p__count (wCons (wOp sIx (wV 0) (wC (.int 2))) (wCons (wOp sSub (wV 1) (wC (.int 1))) wNil))))))
theorem body_p__count {P : Program} {w : World} {K : Fg} {mg : Str → Option Value} {base : Heap} {k : Nat} {k_p__count : Nat} {S_p__count : WF} (c_p__count : C8.Cal P w K mg base k_p__count "_count" (sp3 K S_p__count) []) (h_p__count : k_p__count ≤ k) (m_isinstance : mg "isinstance" = none) (m_tuple : mg "tuple" = none)
    (cdv : Value) (f : Addr) (A : Around) (outer : List Env) (sh : Shared) (H : Hp) (E : XK) (hr : Room k (A.deeper (envOfC "_count" (defScope s_p__count) sh.heap.objs.size f cdv))) :
    ∃ t, WSs (cxOf CX0 P w K mg base N_p__count "_count" (defScope s_p__count) f cdv A outer sh H E).nox (defBody s_p__count) t (W_p__count S_p__count) := by
  have nd := sc_p__count.nd
  exact ⟨_, (w_scons (w_ifS (w_nott (w_tru (w_isi (by rfl) m_isinstance boot_isinstance (by rfl) m_tuple boot_tuple' (w_v 0))))
 (w_sone (w_ret (w_if (w_tru (w_v 0)) (w_shl w_int (w_v 1)) w_int)))
 w_snil)
 (w_sone (w_ret (w_add (w_call c_p__count hr h_p__count (by rfl) (w_cons (w_ix (w_v 0) w_int) (w_cons (w_sub (w_v 1) w_int) w_nil))) (w_call c_p__count hr h_p__count (by rfl) (w_cons (w_ix (w_v 0) w_int) (w_cons (w_sub (w_v 1) w_int) w_nil)))))))⟩
theorem bi_p__count {K : Fg} {f : Addr} {fd : FuncData} (Fd : FunD K "_count" "_count" (defArgs s_p__count) (defBody s_p__count) (defScope s_p__count) [] [] f fd) : Binds K fd ["condition", "free"] [] := FunD.bindsN Fd fun _ _ _ _ _ _ us hl => match us, hl with | [_, _], _ => rfl
theorem z_p__count {P : Program} {w : World} {K : Fg} {mg : Str → Option Value} {base : Heap} (D : Dn K mg "_count" s_p__count) : C8.Cal P w K mg base 0 "_count" (sp3 K fun _ _ _ => False) [] := D.zero bi_p__count
theorem fok_p__count {P : Program} {w : World} {K : Fg} {mg : Str → Option Value} {base : Heap} {k : Nat} {f : Addr} {fd : FuncData} (Fd : FunD K "_count" "_count" (defArgs s_p__count) (defBody s_p__count) (defScope s_p__count) [] [] f fd) {k_p__count : Nat} {S_p__count : WF} (c_p__count : C8.Cal P w K mg base k_p__count "_count" (sp3 K S_p__count) []) (h_p__count : k_p__count ≤ k) (m_isinstance : mg "isinstance" = none) (m_tuple : mg "tuple" = none) {s : WF} (len : ∀ us μ Q, s us μ Q → us.length = 2)
    (h : ∀ us μ Q, s us μ Q → W_p__count S_p__count (E3 μ Q) (start3 N_p__count us) μ) :
    FnOk P w K mg base C8.CX0 (k + 1) f fd ["condition", "free"] (sp3 K s) :=
  fn3F Fd sc_p__count len fun cdv A outer sh H E hr =>
    let ⟨t, ht⟩ := body_p__count c_p__count h_p__count m_isinstance m_tuple cdv f A outer sh H E hr
    ⟨t, _, ht, h⟩
theorem cal_p__count {P : Program} {w : World} {K : Fg} {mg : Str → Option Value} {base : Heap} {k : Nat} (D : Dn K mg "_count" s_p__count) {k_p__count : Nat} {S_p__count : WF} (c_p__count : C8.Cal P w K mg base k_p__count "_count" (sp3 K S_p__count) []) (h_p__count : k_p__count ≤ k) (m_isinstance : mg "isinstance" = none) (m_tuple : mg "tuple" = none) {s : WF} (len : ∀ us μ Q, s us μ Q → us.length = 2)
    (h : ∀ us μ Q, s us μ Q → W_p__count S_p__count (E3 μ Q) (start3 N_p__count us) μ) :
    C8.Cal P w K mg base (k + 1) "_count" (sp3 K s) [] := by
  obtain ⟨f, fd, Fd, hmg⟩ := D.ex
  exact ⟨f, fd, _, [], fok_p__count Fd c_p__count h_p__count m_isinstance m_tuple len h, hmg, Fd.kp, bi_p__count Fd, .nil⟩

/-! ### _listed -/
abbrev s_p__listed : Stmt := topS 7
abbrev N_p__listed : List Str := ["settings", "names", "at", "on", "off", "setting"]
theorem sc_p__listed : FnScope N_p__listed ["settings", "names", "at"] (defScope s_p__listed) := ⟨rfl, rfl, rfl, by decide +kernel, rfl, by decide +kernel, by decide +kernel⟩
def W_p__listed (S_p__node : WF) (S_p__listed : WF) : WSt :=
  (wSeq (wIfS (wNot (wTru (wV 0))) (wRet (wC (.bool false))) wNext)
  (wSeq (wIfS (wB (wOp (sEqA id) (wV 2) (wQ qLenA (wCons (wV 1) wNil)))) (wRet (wC (.bool true))) wNext)
  (wSeq (wAsg (wLc (jSeq (wV 0)) [5] (gN 5) (wB (wOp (sInA id) (wOp sIx (wV 1) (wV 2)) (wV 5))) (wV 5)) (gN 3))
  (wSeq (wAsg (wLc (jSeq (wV 0)) [5] (gN 5) (wB (wOp (sInA not) (wOp sIx (wV 1) (wV 2)) (wV 5))) (wV 5)) (gN 4))
  (wRet (wCall S_p__node (wCons (wOp sIx (wV 1) (wV 2)) (wCons (wCall S_p__listed (wCons (wV 3) (wCons (wV 1) (wCons (wOp sAdd (wV 2) (wC (.int 1))) wNil)))) (wCons (wCall S_p__listed (wCons (wV 4) (wCons (wV 1) (wCons (wOp sAdd (wV 2) (wC (.int 1))) wNil)))) wNil)))))))))
theorem body_p__listed {P : Program} {w : World} {K : Fg} {mg : Str → Option Value} {base : Heap} {k : Nat} {k_p__node : Nat} {S_p__node : WF} (c_p__node : C8.Cal P w K mg base k_p__node "_node" (sp3 K S_p__node) []) (h_p__node : k_p__node ≤ k) {k_p__listed : Nat} {S_p__listed : WF} (c_p__listed : C8.Cal P w K mg base k_p__listed "_listed" (sp3 K S_p__listed) []) (h_p__listed : k_p__listed ≤ k) (m_len : mg "len" = none)
    (cdv : Value) (f : Addr) (A : Around) (outer : List Env) (sh : Shared) (H : Hp) (E : XK) (hr : Room k (A.deeper (envOfC "_listed" (defScope s_p__listed) sh.heap.objs.size f cdv))) :
    ∃ t, WSs (cxOf CX0 P w K mg base N_p__listed "_listed" (defScope s_p__listed) f cdv A outer sh H E).nox (defBody s_p__listed) t (W_p__listed S_p__node S_p__listed) := by
  have nd := sc_p__listed.nd
  exact ⟨_, (w_scons (w_ifS (w_nott (w_tru (w_v 0)))
 (w_sone (w_ret w_bl))
 w_snil)
 (w_scons (w_ifS (w_eq hr.units (w_v 2) (w_len (by rfl) m_len (w_cons (w_v 1) w_nil))).t
 (w_sone (w_ret w_bl))
 w_snil)
 (w_scons (w_setLc1 3 "setting" 5 rfl nd (sw_true rfl rfl rfl (by decide +kernel)) (w_seq (w_v 0)) (blkOk_by (N := N_p__listed) (sc := defScope s_p__listed) (by decide +kernel)) (go_name (by decide)) (w_gn 5 nd) (w_tsone (w_in (w_ix (w_v 1) (w_v 2)) (w_v 5)).t) (w_v 5) (fun _ _ _ _ _ => (w_gn 5 nd)) (fun _ _ _ _ _ => (w_tsone (w_in (w_ix (w_v 1) (w_v 2)) (w_v 5)).t)) (fun _ _ _ _ _ => (w_v 5)))
 (w_scons (w_setLc1 4 "setting" 5 rfl nd (sw_true rfl rfl rfl (by decide +kernel)) (w_seq (w_v 0)) (blkOk_by (N := N_p__listed) (sc := defScope s_p__listed) (by decide +kernel)) (go_name (by decide)) (w_gn 5 nd) (w_tsone (w_notin (w_ix (w_v 1) (w_v 2)) (w_v 5)).t) (w_v 5) (fun _ _ _ _ _ => (w_gn 5 nd)) (fun _ _ _ _ _ => (w_tsone (w_notin (w_ix (w_v 1) (w_v 2)) (w_v 5)).t)) (fun _ _ _ _ _ => (w_v 5)))
 (w_sone (w_ret (w_call c_p__node hr h_p__node (by rfl) (w_cons (w_ix (w_v 1) (w_v 2)) (w_cons (w_call c_p__listed hr h_p__listed (by rfl) (w_cons (w_v 3) (w_cons (w_v 1) (w_cons (w_add (w_v 2) w_int) w_nil)))) (w_cons (w_call c_p__listed hr h_p__listed (by rfl) (w_cons (w_v 4) (w_cons (w_v 1) (w_cons (w_add (w_v 2) w_int) w_nil)))) w_nil))))))))))⟩
theorem bi_p__listed {K : Fg} {f : Addr} {fd : FuncData} (Fd : FunD K "_listed" "_listed" (defArgs s_p__listed) (defBody s_p__listed) (defScope s_p__listed) [] [] f fd) : Binds K fd ["settings", "names", "at"] [] := FunD.bindsN Fd fun _ _ _ _ _ _ us hl => match us, hl with | [_, _, _], _ => rfl
theorem z_p__listed {P : Program} {w : World} {K : Fg} {mg : Str → Option Value} {base : Heap} (D : Dn K mg "_listed" s_p__listed) : C8.Cal P w K mg base 0 "_listed" (sp3 K fun _ _ _ => False) [] := D.zero bi_p__listed
theorem fok_p__listed {P : Program} {w : World} {K : Fg} {mg : Str → Option Value} {base : Heap} {k : Nat} {f : Addr} {fd : FuncData} (Fd : FunD K "_listed" "_listed" (defArgs s_p__listed) (defBody s_p__listed) (defScope s_p__listed) [] [] f fd) {k_p__node : Nat} {S_p__node : WF} (c_p__node : C8.Cal P w K mg base k_p__node "_node" (sp3 K S_p__node) []) (h_p__node : k_p__node ≤ k) {k_p__listed : Nat} {S_p__listed : WF} (c_p__listed : C8.Cal P w K mg base k_p__listed "_listed" (sp3 K S_p__listed) []) (h_p__listed : k_p__listed ≤ k) (m_len : mg "len" = none) {s : WF} (len : ∀ us μ Q, s us μ Q → us.length = 3)
    (h : ∀ us μ Q, s us μ Q → W_p__listed S_p__node S_p__listed (E3 μ Q) (start3 N_p__listed us) μ) :
    FnOk P w K mg base C8.CX0 (k + 1) f fd ["settings", "names", "at"] (sp3 K s) :=
  fn3F Fd sc_p__listed len fun cdv A outer sh H E hr =>
    let ⟨t, ht⟩ := body_p__listed c_p__node h_p__node c_p__listed h_p__listed m_len cdv f A outer sh H E hr
    ⟨t, _, ht, h⟩
theorem cal_p__listed {P : Program} {w : World} {K : Fg} {mg : Str → Option Value} {base : Heap} {k : Nat} (D : Dn K mg "_listed" s_p__listed) {k_p__node : Nat} {S_p__node : WF} (c_p__node : C8.Cal P w K mg base k_p__node "_node" (sp3 K S_p__node) []) (h_p__node : k_p__node ≤ k) {k_p__listed : Nat} {S_p__listed : WF} (c_p__listed : C8.Cal P w K mg base k_p__listed "_listed" (sp3 K S_p__listed) []) (h_p__listed : k_p__listed ≤ k) (m_len : mg "len" = none) {s : WF} (len : ∀ us μ Q, s us μ Q → us.length = 3)
    (h : ∀ us μ Q, s us μ Q → W_p__listed S_p__node S_p__listed (E3 μ Q) (start3 N_p__listed us) μ) :
    C8.Cal P w K mg base (k + 1) "_listed" (sp3 K s) [] := by
  obtain ⟨f, fd, Fd, hmg⟩ := D.ex
  exact ⟨f, fd, _, [], fok_p__listed Fd c_p__node h_p__node c_p__listed h_p__listed m_len len h, hmg, Fd.kp, bi_p__listed Fd, .nil⟩

/-! ### _law_stirred -/
abbrev s_l_stirred : Stmt := topS 9
abbrev N_l_stirred : List Str := ["_law_number", "_law_turn", "_law_once", "_law_twice"]
theorem sc_l_stirred : FnScope N_l_stirred ["_law_number", "_law_turn"] (defScope s_l_stirred) := ⟨rfl, rfl, rfl, by decide +kernel, rfl, by decide +kernel, by decide +kernel⟩
def W_l_stirred : WSt :=
  (wSeq (wAsg (wOp sMod (wQ qInt (wCons (wOp sAdd (wOp sAdd (wOp sMul (wV 0) (wC (.int 48017))) (wOp sMul (wV 1) (wC (.int 8821)))) (wC (.int 70001))) wNil)) (wC (.int 2147483423))) (gN 2))
  (wSeq (wAsg (wOp sMod (wQ qInt (wCons (wOp sAdd (wOp sAdd (wOp sMul (wV 2) (wV 2)) (wOp sMul (wV 1) (wC (.int 60017)))) (wOp sFdiv (wV 2) (wC (.int 151)))) wNil)) (wC (.int 2147483477))) (gN 3))
  (wRet (wOp sFdiv (wQ qInt (wCons (wOp sMod (wQ qInt (wCons (wOp sAdd (wOp sMul (wV 3) (wC (.int 51199))) (wOp sFdiv (wV 2) (wC (.int 17)))) wNil)) (wC (.int 2147483549))) wNil)) (wC (.int 128))))))
theorem body_l_stirred {P : Program} {w : World} {K : Fg} {mg : Str → Option Value} {base : Heap} {k : Nat} (m_int : mg "int" = none)
    (cdv : Value) (f : Addr) (A : Around) (outer : List Env) (sh : Shared) (H : Hp) (E : XK) (hr : Room k (A.deeper (envOfC "_law_stirred" (defScope s_l_stirred) sh.heap.objs.size f cdv))) :
    ∃ t, WSs (cxOf CX0 P w K mg base N_l_stirred "_law_stirred" (defScope s_l_stirred) f cdv A outer sh H E).nox (defBody s_l_stirred) t (W_l_stirred) := by
  have nd := sc_l_stirred.nd
  exact ⟨_, (w_scons (w_set 2 nd (w_mod (w_intc (by rfl) m_int (w_cons (w_add (w_add (w_mul (w_v 0) w_int) (w_mul (w_v 1) w_int)) w_int) w_nil)) w_int))
 (w_scons (w_set 3 nd (w_mod (w_intc (by rfl) m_int (w_cons (w_add (w_add (w_mul (w_v 2) (w_v 2)) (w_mul (w_v 1) w_int)) (w_fdiv (w_v 2) w_int)) w_nil)) w_int))
 (w_sone (w_ret (w_fdiv (w_intc (by rfl) m_int (w_cons (w_mod (w_intc (by rfl) m_int (w_cons (w_add (w_mul (w_v 3) w_int) (w_fdiv (w_v 2) w_int)) w_nil)) w_int) w_nil)) w_int)))))⟩
theorem bi_l_stirred {K : Fg} {f : Addr} {fd : FuncData} (Fd : FunD K "_law_stirred" "_law_stirred" (defArgs s_l_stirred) (defBody s_l_stirred) (defScope s_l_stirred) [] [] f fd) : Binds K fd ["_law_number", "_law_turn"] [] := FunD.bindsN Fd fun _ _ _ _ _ _ us hl => match us, hl with | [_, _], _ => rfl
theorem z_l_stirred {P : Program} {w : World} {K : Fg} {mg : Str → Option Value} {base : Heap} (D : Dn K mg "_law_stirred" s_l_stirred) : C8.Cal P w K mg base 0 "_law_stirred" (sp3 K fun _ _ _ => False) [] := D.zero bi_l_stirred
theorem fok_l_stirred {P : Program} {w : World} {K : Fg} {mg : Str → Option Value} {base : Heap} {k : Nat} {f : Addr} {fd : FuncData} (Fd : FunD K "_law_stirred" "_law_stirred" (defArgs s_l_stirred) (defBody s_l_stirred) (defScope s_l_stirred) [] [] f fd) (m_int : mg "int" = none) {s : WF} (len : ∀ us μ Q, s us μ Q → us.length = 2)
    (h : ∀ us μ Q, s us μ Q → W_l_stirred (E3 μ Q) (start3 N_l_stirred us) μ) :
    FnOk P w K mg base C8.CX0 (k + 1) f fd ["_law_number", "_law_turn"] (sp3 K s) :=
  fn3F Fd sc_l_stirred len fun cdv A outer sh H E hr =>
    let ⟨t, ht⟩ := body_l_stirred m_int cdv f A outer sh H E hr
    ⟨t, _, ht, h⟩
theorem cal_l_stirred {P : Program} {w : World} {K : Fg} {mg : Str → Option Value} {base : Heap} {k : Nat} (D : Dn K mg "_law_stirred" s_l_stirred) (m_int : mg "int" = none) {s : WF} (len : ∀ us μ Q, s us μ Q → us.length = 2)
    (h : ∀ us μ Q, s us μ Q → W_l_stirred (E3 μ Q) (start3 N_l_stirred us) μ) :
    C8.Cal P w K mg base (k + 1) "_law_stirred" (sp3 K s) [] := by
  obtain ⟨f, fd, Fd, hmg⟩ := D.ex
  exact ⟨f, fd, _, [], fok_l_stirred Fd m_int len h, hmg, Fd.kp, bi_l_stirred Fd, .nil⟩

/-! ### _law_take -/
abbrev s_l_take : Stmt := topS 10
abbrev N_l_take : List Str := ["_law_hand_here", "_law_many", "_law_cell", "_law_rest"]
theorem sc_l_take : FnScope N_l_take ["_law_hand_here", "_law_many"] (defScope s_l_take) := ⟨rfl, rfl, rfl, by decide +kernel, rfl, by decide +kernel, by decide +kernel⟩
def W_l_take (S_l_stirred : WF) : WSt :=
  (wOpen 0 (wSeq (wIfS (wAnd (wB (wOp (sEqA id) (wOp sIx (wV 0) (wC (.int 2))) (wC (.int 0)))) (wB (wOp sLt (wOp sIx (wV 0) (wC (.int 1))) (wQ qLenA (wCons (wOp sIx (wV 0) (wC (.int 0))) wNil))))) (wSeq (wAsg (wOp sIx (wOp sIx (wV 0) (wC (.int 0))) (wOp sIx (wV 0) (wC (.int 1)))) (gN 2))
  (wSeq (wAsg (wOp sAdd (wOp sIx (wV 0) (wC (.int 1))) (wC (.int 1))) (gIx (wV 0) (wC (.int 1))))
  (wSeq (wIfS (wB (wOp sLt (wV 2) (wOp sPow (wC (.int 10)) (wC (.int 18))))) (wRet (wOp sMod (wQ qInt (wCons (wCall S_l_stirred (wCons (wOp sMod (wQ qInt (wCons (wV 2) wNil)) (wC (.int 2147483423))) (wCons (wOp sIx (wV 0) (wC (.int 1))) wNil))) wNil)) (wV 1))) wNext)
  (wAsg (wV 2) (gIx (wV 0) (wC (.int 2))))))) wNext)
  (wSeq (wIfS (wB (wOp sGt (wOp sIx (wV 0) (wC (.int 2))) (wC (.int 0)))) (wSeq (wAsg (wOp sIx (wV 0) (wC (.int 2))) (gN 3))
  (wSeq (wAsg (wOp sFdiv (wQ qInt (wCons (wV 3) wNil)) (wV 1)) (gIx (wV 0) (wC (.int 2))))
  (wRet (wOp sMod (wQ qInt (wCons (wV 3) wNil)) (wV 1))))) wNext)
  (wSeq (wAsg (wOp sMod (wQ qInt (wCons (wOp sAdd (wOp sIx (wV 0) (wC (.int 3))) (wC (.int 1))) wNil)) (wC (.int 2147483477))) (gIx (wV 0) (wC (.int 3))))
  (wRet (wOp sMod (wQ qInt (wCons (wCall S_l_stirred (wCons (wOp sIx (wV 0) (wC (.int 3))) (wCons (wOp sIx (wV 0) (wC (.int 1))) wNil))) wNil)) (wV 1)))))))
theorem body_l_take {P : Program} {w : World} {K : Fg} {mg : Str → Option Value} {base : Heap} {k : Nat} {k_l_stirred : Nat} {S_l_stirred : WF} (c_l_stirred : C8.Cal P w K mg base k_l_stirred "_law_stirred" (sp3 K S_l_stirred) []) (h_l_stirred : k_l_stirred ≤ k) (m_len : mg "len" = none) (m_int : mg "int" = none)
    (cdv : Value) (f : Addr) (A : Around) (outer : List Env) (sh : Shared) (H : Hp) (E : XK) (hr : Room k (A.deeper (envOfC "_law_take" (defScope s_l_take) sh.heap.objs.size f cdv))) :
    ∃ t, WSs (cxOf CX0 P w K mg base N_l_take "_law_take" (defScope s_l_take) f cdv A outer sh H E).nox (defBody s_l_take) t (W_l_take S_l_stirred) := by
  have nd := sc_l_take.nd
  exact ⟨_, (w_open 0 (w_scons (w_ifS (w_ww (w_and (w_eq hr.units (w_ix (w_v 0) w_int) w_int).t (w_and1 (w_lt (w_ix (w_v 0) w_int) (w_len (by rfl) m_len (w_cons (w_ix (w_v 0) w_int) w_nil))).t)))
 (w_scons (w_set 2 nd (w_ix (w_ix (w_v 0) w_int) (w_ix (w_v 0) w_int)))
 (w_scons (w_asg (w_add (w_ix (w_v 0) w_int) w_int) (w_gix (w_v 0) w_int))
 (w_scons (w_ifS (w_lt (w_v 2) (w_pow w_int w_int)).t
 (w_sone (w_ret (w_mod (w_intc (by rfl) m_int (w_cons (w_call c_l_stirred hr h_l_stirred (by rfl) (w_cons (w_mod (w_intc (by rfl) m_int (w_cons (w_v 2) w_nil)) w_int) (w_cons (w_ix (w_v 0) w_int) w_nil))) w_nil)) (w_v 1))))
 w_snil)
 (w_sone (w_asg (w_v 2) (w_gix (w_v 0) w_int))))))
 w_snil)
 (w_scons (w_ifS (w_gt (w_ix (w_v 0) w_int) w_int).t
 (w_scons (w_set 3 nd (w_ix (w_v 0) w_int))
 (w_scons (w_asg (w_fdiv (w_intc (by rfl) m_int (w_cons (w_v 3) w_nil)) (w_v 1)) (w_gix (w_v 0) w_int))
 (w_sone (w_ret (w_mod (w_intc (by rfl) m_int (w_cons (w_v 3) w_nil)) (w_v 1))))))
 w_snil)
 (w_scons (w_asg (w_mod (w_intc (by rfl) m_int (w_cons (w_add (w_ix (w_v 0) w_int) w_int) w_nil)) w_int) (w_gix (w_v 0) w_int))
 (w_sone (w_ret (w_mod (w_intc (by rfl) m_int (w_cons (w_call c_l_stirred hr h_l_stirred (by rfl) (w_cons (w_ix (w_v 0) w_int) (w_cons (w_ix (w_v 0) w_int) w_nil))) w_nil)) (w_v 1))))))))⟩
theorem bi_l_take {K : Fg} {f : Addr} {fd : FuncData} (Fd : FunD K "_law_take" "_law_take" (defArgs s_l_take) (defBody s_l_take) (defScope s_l_take) [] [] f fd) : Binds K fd ["_law_hand_here", "_law_many"] [] := FunD.bindsN Fd fun _ _ _ _ _ _ us hl => match us, hl with | [_, _], _ => rfl
theorem z_l_take {P : Program} {w : World} {K : Fg} {mg : Str → Option Value} {base : Heap} (D : Dn K mg "_law_take" s_l_take) : C8.Cal P w K mg base 0 "_law_take" (sp3 K fun _ _ _ => False) [] := D.zero bi_l_take
theorem fok_l_take {P : Program} {w : World} {K : Fg} {mg : Str → Option Value} {base : Heap} {k : Nat} {f : Addr} {fd : FuncData} (Fd : FunD K "_law_take" "_law_take" (defArgs s_l_take) (defBody s_l_take) (defScope s_l_take) [] [] f fd) {k_l_stirred : Nat} {S_l_stirred : WF} (c_l_stirred : C8.Cal P w K mg base k_l_stirred "_law_stirred" (sp3 K S_l_stirred) []) (h_l_stirred : k_l_stirred ≤ k) (m_len : mg "len" = none) (m_int : mg "int" = none) {s : WF} (len : ∀ us μ Q, s us μ Q → us.length = 2)
    (h : ∀ us μ Q, s us μ Q → W_l_take S_l_stirred (E3 μ Q) (start3 N_l_take us) μ) :
    FnOk P w K mg base C8.CX0 (k + 1) f fd ["_law_hand_here", "_law_many"] (sp3 K s) :=
  fn3F Fd sc_l_take len fun cdv A outer sh H E hr =>
    let ⟨t, ht⟩ := body_l_take c_l_stirred h_l_stirred m_len m_int cdv f A outer sh H E hr
    ⟨t, _, ht, h⟩
theorem cal_l_take {P : Program} {w : World} {K : Fg} {mg : Str → Option Value} {base : Heap} {k : Nat} (D : Dn K mg "_law_take" s_l_take) {k_l_stirred : Nat} {S_l_stirred : WF} (c_l_stirred : C8.Cal P w K mg base k_l_stirred "_law_stirred" (sp3 K S_l_stirred) []) (h_l_stirred : k_l_stirred ≤ k) (m_len : mg "len" = none) (m_int : mg "int" = none) {s : WF} (len : ∀ us μ Q, s us μ Q → us.length = 2)
    (h : ∀ us μ Q, s us μ Q → W_l_take S_l_stirred (E3 μ Q) (start3 N_l_take us) μ) :
    C8.Cal P w K mg base (k + 1) "_law_take" (sp3 K s) [] := by
  obtain ⟨f, fd, Fd, hmg⟩ := D.ex
  exact ⟨f, fd, _, [], fok_l_take Fd c_l_stirred h_l_stirred m_len m_int len h, hmg, Fd.kp, bi_l_take Fd, .nil⟩

/-! ### _law_shuffled -/
abbrev s_l_shuffled : Stmt := topS 11
abbrev N_l_shuffled : List Str := ["_law_hand_here", "_law_things", "_law_left", "_law_k"]
theorem sc_l_shuffled : FnScope N_l_shuffled ["_law_hand_here", "_law_things"] (defScope s_l_shuffled) := ⟨rfl, rfl, rfl, by decide +kernel, rfl, by decide +kernel, by decide +kernel⟩
def W_l_shuffled (S_l_take : WF) : WSt :=
  (wSeq (wAsg (wQ qListM (wCons (wV 1) wNil)) (gN 2))
  (wRet (wLc (jRng1 (wCons (wQ qLenA (wCons (wV 2) wNil)) wNil)) [3] (gN 3) wYes (wML mPopAt (wV 2) (wCons (wCall S_l_take (wCons (wV 0) (wCons (wQ qLenA (wCons (wV 2) wNil)) wNil))) wNil)))))
theorem body_l_shuffled {P : Program} {w : World} {K : Fg} {mg : Str → Option Value} {base : Heap} {k : Nat} {k_l_take : Nat} {S_l_take : WF} (c_l_take : C8.Cal P w K mg base k_l_take "_law_take" (sp3 K S_l_take) []) (h_l_take : k_l_take ≤ k) (m_list : mg "list" = none) (m_len : mg "len" = none) (m_range : mg "range" = none)
    (cdv : Value) (f : Addr) (A : Around) (outer : List Env) (sh : Shared) (H : Hp) (E : XK) (hr : Room k (A.deeper (envOfC "_law_shuffled" (defScope s_l_shuffled) sh.heap.objs.size f cdv))) :
    ∃ t, WSs (cxOf CX0 P w K mg base N_l_shuffled "_law_shuffled" (defScope s_l_shuffled) f cdv A outer sh H E).nox (defBody s_l_shuffled) t (W_l_shuffled S_l_take) := by
  have nd := sc_l_shuffled.nd
  exact ⟨_, (w_scons (w_set 2 nd (w_listcM (by rfl) m_list (w_cons (w_v 1) w_nil)))
 (w_sone (w_ret (w_lc1 "_law_k" 3 rfl nd (w_rng1 (by rfl) m_range (w_cons (w_len (by rfl) m_len (w_cons (w_v 2) w_nil)) w_nil)) (blkOk_by (N := N_l_shuffled) (sc := defScope s_l_shuffled) (by decide +kernel)) (go_name (by decide)) (w_gn 3 nd) w_tsnil (w_popAt (w_v 2) (w_cons (w_call c_l_take hr h_l_take (by rfl) (w_cons (w_v 0) (w_cons (w_len (by rfl) m_len (w_cons (w_v 2) w_nil)) w_nil))) w_nil)) (fun _ _ _ _ _ => (w_gn 3 nd)) (fun _ _ _ _ _ => w_tsnil) (fun _ _ _ _ _ => (w_popAt (w_v 2) (w_cons (w_call c_l_take hr h_l_take (by rfl) (w_cons (w_v 0) (w_cons (w_len (by rfl) m_len (w_cons (w_v 2) w_nil)) w_nil))) w_nil)))))))⟩
theorem bi_l_shuffled {K : Fg} {f : Addr} {fd : FuncData} (Fd : FunD K "_law_shuffled" "_law_shuffled" (defArgs s_l_shuffled) (defBody s_l_shuffled) (defScope s_l_shuffled) [] [] f fd) : Binds K fd ["_law_hand_here", "_law_things"] [] := FunD.bindsN Fd fun _ _ _ _ _ _ us hl => match us, hl with | [_, _], _ => rfl
theorem z_l_shuffled {P : Program} {w : World} {K : Fg} {mg : Str → Option Value} {base : Heap} (D : Dn K mg "_law_shuffled" s_l_shuffled) : C8.Cal P w K mg base 0 "_law_shuffled" (sp3 K fun _ _ _ => False) [] := D.zero bi_l_shuffled
theorem fok_l_shuffled {P : Program} {w : World} {K : Fg} {mg : Str → Option Value} {base : Heap} {k : Nat} {f : Addr} {fd : FuncData} (Fd : FunD K "_law_shuffled" "_law_shuffled" (defArgs s_l_shuffled) (defBody s_l_shuffled) (defScope s_l_shuffled) [] [] f fd) {k_l_take : Nat} {S_l_take : WF} (c_l_take : C8.Cal P w K mg base k_l_take "_law_take" (sp3 K S_l_take) []) (h_l_take : k_l_take ≤ k) (m_list : mg "list" = none) (m_len : mg "len" = none) (m_range : mg "range" = none) {s : WF} (len : ∀ us μ Q, s us μ Q → us.length = 2)
    (h : ∀ us μ Q, s us μ Q → W_l_shuffled S_l_take (E3 μ Q) (start3 N_l_shuffled us) μ) :
    FnOk P w K mg base C8.CX0 (k + 1) f fd ["_law_hand_here", "_law_things"] (sp3 K s) :=
  fn3F Fd sc_l_shuffled len fun cdv A outer sh H E hr =>
    let ⟨t, ht⟩ := body_l_shuffled c_l_take h_l_take m_list m_len m_range cdv f A outer sh H E hr
    ⟨t, _, ht, h⟩
theorem cal_l_shuffled {P : Program} {w : World} {K : Fg} {mg : Str → Option Value} {base : Heap} {k : Nat} (D : Dn K mg "_law_shuffled" s_l_shuffled) {k_l_take : Nat} {S_l_take : WF} (c_l_take : C8.Cal P w K mg base k_l_take "_law_take" (sp3 K S_l_take) []) (h_l_take : k_l_take ≤ k) (m_list : mg "list" = none) (m_len : mg "len" = none) (m_range : mg "range" = none) {s : WF} (len : ∀ us μ Q, s us μ Q → us.length = 2)
    (h : ∀ us μ Q, s us μ Q → W_l_shuffled S_l_take (E3 μ Q) (start3 N_l_shuffled us) μ) :
    C8.Cal P w K mg base (k + 1) "_law_shuffled" (sp3 K s) [] := by
  obtain ⟨f, fd, Fd, hmg⟩ := D.ex
  exact ⟨f, fd, _, [], fok_l_shuffled Fd c_l_take h_l_take m_list m_len m_range len h, hmg, Fd.kp, bi_l_shuffled Fd, .nil⟩

/-! ### _law_hand -/
abbrev s_l_hand : Stmt := topS 12
abbrev N_l_hand : List Str := ["_law_script", "_law_total", "_law_cells", "_law_cell"]
theorem sc_l_hand : FnScope N_l_hand ["_law_script"] (defScope s_l_hand) := ⟨rfl, rfl, rfl, by decide +kernel, rfl, by decide +kernel, by decide +kernel⟩
def W_l_hand : WSt :=
  (wSeq (wAsg (wOp sAdd (wOp sMul (wQ qLenA (wCons (wV 0) wNil)) (wC (.int 37))) (wC (.int 101))) (gN 1))
  (wSeq (wAsg (wLstM wNil) (gN 2))
  (wSeq (wFor (jSeq (wV 0)) (gN 3) (wSeq (wAsg (wOp sMod (wQ qInt (wCons (wOp sAdd (wOp sMul (wV 1) (wC (.int 2011))) (wQ qInt (wCons (wV 3) wNil))) wNil)) (wC (.int 2147483543))) (gN 1))
  (wDrop (wML mAppend (wV 2) (wCons (wQ qAbs (wCons (wQ qInt (wCons (wV 3) wNil)) wNil)) wNil)))))
  (wFrz 2 (wRet (wLstM (wCons (wV 2) (wCons (wC (.int 0)) (wCons (wC (.int 0)) (wCons (wV 1) wNil))))))))))
theorem body_l_hand {P : Program} {w : World} {K : Fg} {mg : Str → Option Value} {base : Heap} {k : Nat} (m_len : mg "len" = none) (m_int : mg "int" = none) (m_abs : mg "abs" = none)
    (cdv : Value) (f : Addr) (A : Around) (outer : List Env) (sh : Shared) (H : Hp) (E : XK) (hr : Room k (A.deeper (envOfC "_law_hand" (defScope s_l_hand) sh.heap.objs.size f cdv))) :
    ∃ t, WSs (cxOf CX0 P w K mg base N_l_hand "_law_hand" (defScope s_l_hand) f cdv A outer sh H E).nox (defBody s_l_hand) t (W_l_hand) := by
  have nd := sc_l_hand.nd
  exact ⟨_, (w_scons (w_set 1 nd (w_add (w_mul (w_len (by rfl) m_len (w_cons (w_v 0) w_nil)) w_int) w_int))
 (w_scons (w_set 2 nd (w_lstM w_nil))
 (w_scons (w_for PassesOwn.never rfl (w_seq (w_v 0)) (w_gn 3 nd)
 (w_scons (w_set 1 nd (w_mod (w_intc (by rfl) m_int (w_cons (w_add (w_mul (w_v 1) w_int) (w_intc (by rfl) m_int (w_cons (w_v 3) w_nil))) w_nil)) w_int))
 (w_sone (w_expr (w_append (w_v 2) (w_cons (w_abs (by rfl) m_abs (w_cons (w_intc (by rfl) m_int (w_cons (w_v 3) w_nil)) w_nil)) w_nil))))))
 (w_frz 2 (w_sone (w_ret (w_lstM (w_cons (w_v 2) (w_cons w_int (w_cons w_int (w_cons (w_v 1) w_nil)))))))))))⟩
theorem bi_l_hand {K : Fg} {f : Addr} {fd : FuncData} (Fd : FunD K "_law_hand" "_law_hand" (defArgs s_l_hand) (defBody s_l_hand) (defScope s_l_hand) [] [] f fd) : Binds K fd ["_law_script"] [] := FunD.bindsN Fd fun _ _ _ _ _ _ us hl => match us, hl with | [_], _ => rfl
theorem z_l_hand {P : Program} {w : World} {K : Fg} {mg : Str → Option Value} {base : Heap} (D : Dn K mg "_law_hand" s_l_hand) : C8.Cal P w K mg base 0 "_law_hand" (sp3 K fun _ _ _ => False) [] := D.zero bi_l_hand
theorem fok_l_hand {P : Program} {w : World} {K : Fg} {mg : Str → Option Value} {base : Heap} {k : Nat} {f : Addr} {fd : FuncData} (Fd : FunD K "_law_hand" "_law_hand" (defArgs s_l_hand) (defBody s_l_hand) (defScope s_l_hand) [] [] f fd) (m_len : mg "len" = none) (m_int : mg "int" = none) (m_abs : mg "abs" = none) {s : WF} (len : ∀ us μ Q, s us μ Q → us.length = 1)
    (h : ∀ us μ Q, s us μ Q → W_l_hand (E3 μ Q) (start3 N_l_hand us) μ) :
    FnOk P w K mg base C8.CX0 (k + 1) f fd ["_law_script"] (sp3 K s) :=
  fn3F Fd sc_l_hand len fun cdv A outer sh H E hr =>
    let ⟨t, ht⟩ := body_l_hand m_len m_int m_abs cdv f A outer sh H E hr
    ⟨t, _, ht, h⟩
theorem cal_l_hand {P : Program} {w : World} {K : Fg} {mg : Str → Option Value} {base : Heap} {k : Nat} (D : Dn K mg "_law_hand" s_l_hand) (m_len : mg "len" = none) (m_int : mg "int" = none) (m_abs : mg "abs" = none) {s : WF} (len : ∀ us μ Q, s us μ Q → us.length = 1)
    (h : ∀ us μ Q, s us μ Q → W_l_hand (E3 μ Q) (start3 N_l_hand us) μ) :
    C8.Cal P w K mg base (k + 1) "_law_hand" (sp3 K s) [] := by
  obtain ⟨f, fd, Fd, hmg⟩ := D.ex
  exact ⟨f, fd, _, [], fok_l_hand Fd m_len m_int m_abs len h, hmg, Fd.kp, bi_l_hand Fd, .nil⟩

/-! ### _law_switch_names -/
abbrev s_l_switch_names : Stmt := topS 13
abbrev N_l_switch_names : List Str := ["_law_hand_here", "_law_many", "_law_told", "_law_k", "_law_turn", "_law_middle", "_law_j"]
theorem sc_l_switch_names : FnScope N_l_switch_names ["_law_hand_here", "_law_many"] (defScope s_l_switch_names) := ⟨rfl, rfl, rfl, by decide +kernel, rfl, by decide +kernel, by decide +kernel⟩
def W_l_switch_names (S_l_take : WF) : WSt :=
  (wSeq (wAsg (wLstM wNil) (gN 2))
  (wSeq (wFor (jRng1 (wCons (wV 1) wNil)) (gN 3) (wSeq (wAsg (wCall S_l_take (wCons (wV 0) (wCons (wC (.int 4)) wNil))) (gN 4))
  (wIfS (wB (wOp (sEqA id) (wV 4) (wC (.int 0)))) (wDrop (wML mAppend (wV 2) (wCons (wOp sAdd (wC (.str (Str.ofString "m"))) (wQ qStr (wCons (wOp sAdd (wV 3) (wC (.int 1))) wNil))) wNil))) (wIfS (wB (wOp (sEqA id) (wV 4) (wC (.int 1)))) (wDrop (wML mAppend (wV 2) (wCons (wOp sAdd (wC (.str (Str.ofString "e"))) (wQ qStr (wCons (wOp sAdd (wV 3) (wC (.int 1))) wNil))) wNil))) (wSeq (wAsg (wLc (jRng1 (wCons (wCall S_l_take (wCons (wV 0) (wCons (wC (.int 7)) wNil))) wNil)) [6] (gN 6) wYes (wOp sIx (wC (.str (Str.ofString "abcdefghijklmnopqrstuvwxyz"))) (wCall S_l_take (wCons (wV 0) (wCons (wC (.int 26)) wNil))))) (gN 5))
  (wDrop (wML mAppend (wV 2) (wCons (wOp sAdd (wOp sAdd (wOp sIx (wC (.str (Str.ofString "ABCDEFGHIJKLMNOPQRSTUVWXYZ"))) (wCall S_l_take (wCons (wV 0) (wCons (wC (.int 26)) wNil)))) (wJoin (wC (.str (Str.ofString ""))) (wV 5))) (wQ qStr (wCons (wV 3) wNil))) wNil))))))))
  (wRet (wQ qSortA (wCons (wV 2) wNil)))))
theorem body_l_switch_names {P : Program} {w : World} {K : Fg} {mg : Str → Option Value} {base : Heap} {k : Nat} {k_l_take : Nat} {S_l_take : WF} (c_l_take : C8.Cal P w K mg base k_l_take "_law_take" (sp3 K S_l_take) []) (h_l_take : k_l_take ≤ k) (m_range : mg "range" = none) (m_str : mg "str" = none) (m_sorted : mg "sorted" = none)
    (cdv : Value) (f : Addr) (A : Around) (outer : List Env) (sh : Shared) (H : Hp) (E : XK) (hr : Room k (A.deeper (envOfC "_law_switch_names" (defScope s_l_switch_names) sh.heap.objs.size f cdv))) :
    ∃ t, WSs (cxOf CX0 P w K mg base N_l_switch_names "_law_switch_names" (defScope s_l_switch_names) f cdv A outer sh H E).nox (defBody s_l_switch_names) t (W_l_switch_names S_l_take) := by
  have nd := sc_l_switch_names.nd
  exact ⟨_, (w_scons (w_set 2 nd (w_lstM w_nil))
 (w_scons (w_for PassesOwn.never rfl (w_rng1 (by rfl) m_range (w_cons (w_v 1) w_nil)) (w_gn 3 nd)
 (w_scons (w_set 4 nd (w_call c_l_take hr h_l_take (by rfl) (w_cons (w_v 0) (w_cons w_int w_nil))))
 (w_sone (w_ifS (w_eq hr.units (w_v 4) w_int).t
 (w_sone (w_expr (w_append (w_v 2) (w_cons (w_add w_str (w_strc (by rfl) m_str (w_cons (w_add (w_v 3) w_int) w_nil))) w_nil))))
 (w_sone (w_ifS (w_eq hr.units (w_v 4) w_int).t
 (w_sone (w_expr (w_append (w_v 2) (w_cons (w_add w_str (w_strc (by rfl) m_str (w_cons (w_add (w_v 3) w_int) w_nil))) w_nil))))
 (w_scons (w_setLc1 5 "_law_j" 6 rfl nd (sw_true rfl rfl rfl (by decide +kernel)) (w_rng1 (by rfl) m_range (w_cons (w_call c_l_take hr h_l_take (by rfl) (w_cons (w_v 0) (w_cons w_int w_nil))) w_nil)) (blkOk_by (N := N_l_switch_names) (sc := defScope s_l_switch_names) (by decide +kernel)) (go_name (by decide)) (w_gn 6 nd) w_tsnil (w_ix w_str (w_call c_l_take hr h_l_take (by rfl) (w_cons (w_v 0) (w_cons w_int w_nil)))) (fun _ _ _ _ _ => (w_gn 6 nd)) (fun _ _ _ _ _ => w_tsnil) (fun _ _ _ _ _ => (w_ix w_str (w_call c_l_take hr h_l_take (by rfl) (w_cons (w_v 0) (w_cons w_int w_nil))))))
 (w_sone (w_expr (w_append (w_v 2) (w_cons (w_add (w_add (w_ix w_str (w_call c_l_take hr h_l_take (by rfl) (w_cons (w_v 0) (w_cons w_int w_nil)))) (w_join w_str (w_v 5))) (w_strc (by rfl) m_str (w_cons (w_v 3) w_nil))) w_nil)))))))))))
 (w_sone (w_ret (w_sorted rfl (by rfl) m_sorted (w_cons (w_v 2) w_nil))))))⟩
theorem bi_l_switch_names {K : Fg} {f : Addr} {fd : FuncData} (Fd : FunD K "_law_switch_names" "_law_switch_names" (defArgs s_l_switch_names) (defBody s_l_switch_names) (defScope s_l_switch_names) [] [] f fd) : Binds K fd ["_law_hand_here", "_law_many"] [] := FunD.bindsN Fd fun _ _ _ _ _ _ us hl => match us, hl with | [_, _], _ => rfl
theorem z_l_switch_names {P : Program} {w : World} {K : Fg} {mg : Str → Option Value} {base : Heap} (D : Dn K mg "_law_switch_names" s_l_switch_names) : C8.Cal P w K mg base 0 "_law_switch_names" (sp3 K fun _ _ _ => False) [] := D.zero bi_l_switch_names
theorem fok_l_switch_names {P : Program} {w : World} {K : Fg} {mg : Str → Option Value} {base : Heap} {k : Nat} {f : Addr} {fd : FuncData} (Fd : FunD K "_law_switch_names" "_law_switch_names" (defArgs s_l_switch_names) (defBody s_l_switch_names) (defScope s_l_switch_names) [] [] f fd) {k_l_take : Nat} {S_l_take : WF} (c_l_take : C8.Cal P w K mg base k_l_take "_law_take" (sp3 K S_l_take) []) (h_l_take : k_l_take ≤ k) (m_range : mg "range" = none) (m_str : mg "str" = none) (m_sorted : mg "sorted" = none) {s : WF} (len : ∀ us μ Q, s us μ Q → us.length = 2)
    (h : ∀ us μ Q, s us μ Q → W_l_switch_names S_l_take (E3 μ Q) (start3 N_l_switch_names us) μ) :
    FnOk P w K mg base C8.CX0 (k + 1) f fd ["_law_hand_here", "_law_many"] (sp3 K s) :=
  fn3F Fd sc_l_switch_names len fun cdv A outer sh H E hr =>
    let ⟨t, ht⟩ := body_l_switch_names c_l_take h_l_take m_range m_str m_sorted cdv f A outer sh H E hr
    ⟨t, _, ht, h⟩
theorem cal_l_switch_names {P : Program} {w : World} {K : Fg} {mg : Str → Option Value} {base : Heap} {k : Nat} (D : Dn K mg "_law_switch_names" s_l_switch_names) {k_l_take : Nat} {S_l_take : WF} (c_l_take : C8.Cal P w K mg base k_l_take "_law_take" (sp3 K S_l_take) []) (h_l_take : k_l_take ≤ k) (m_range : mg "range" = none) (m_str : mg "str" = none) (m_sorted : mg "sorted" = none) {s : WF} (len : ∀ us μ Q, s us μ Q → us.length = 2)
    (h : ∀ us μ Q, s us μ Q → W_l_switch_names S_l_take (E3 μ Q) (start3 N_l_switch_names us) μ) :
    C8.Cal P w K mg base (k + 1) "_law_switch_names" (sp3 K s) [] := by
  obtain ⟨f, fd, Fd, hmg⟩ := D.ex
  exact ⟨f, fd, _, [], fok_l_switch_names Fd c_l_take h_l_take m_range m_str m_sorted len h, hmg, Fd.kp, bi_l_switch_names Fd, .nil⟩

/-! ### _law_settings -/
abbrev s_l_settings : Stmt := topS 14
abbrev N_l_settings : List Str := ["_law_names", "_law_told", "_law_switch", "_law_row"]
theorem sc_l_settings : FnScope N_l_settings ["_law_names"] (defScope s_l_settings) := ⟨rfl, rfl, rfl, by decide +kernel, rfl, by decide +kernel, by decide +kernel⟩
def W_l_settings : WSt :=
  (wSeq (wAsg (wLst (wCons (wLst wNil) wNil)) (gN 1))
  (wSeq (wFor (jRev (wV 0)) (gN 2) (wAsg (wOp sAdd (wV 1) (wLc (jSeq (wV 1)) [3] (gN 3) wYes (wOp sAdd (wLst (wCons (wV 2) wNil)) (wV 3)))) (gN 1)))
  (wRet (wV 1))))
theorem body_l_settings {P : Program} {w : World} {K : Fg} {mg : Str → Option Value} {base : Heap} {k : Nat} (m_reversed : mg "reversed" = none)
    (cdv : Value) (f : Addr) (A : Around) (outer : List Env) (sh : Shared) (H : Hp) (E : XK) (hr : Room k (A.deeper (envOfC "_law_settings" (defScope s_l_settings) sh.heap.objs.size f cdv))) :
    ∃ t, WSs (cxOf CX0 P w K mg base N_l_settings "_law_settings" (defScope s_l_settings) f cdv A outer sh H E).nox (defBody s_l_settings) t (W_l_settings) := by
  have nd := sc_l_settings.nd
  exact ⟨_, (w_scons (w_set 1 nd (w_lst (w_cons (w_lst w_nil) w_nil)))
 (w_scons (w_for PassesOwn.never rfl (w_rev (by rfl) m_reversed (w_v 0)) (w_gn 2 nd)
 (w_sone (w_set 1 nd (w_add (w_v 1) (w_lc1 "_law_row" 3 rfl nd (w_seq (w_v 1)) (blkOk_by (N := N_l_settings) (sc := defScope s_l_settings) (by decide +kernel)) (go_name (by decide)) (w_gn 3 nd) w_tsnil (w_add (w_lst (w_cons (w_v 2) w_nil)) (w_v 3)) (fun _ _ _ _ _ => (w_gn 3 nd)) (fun _ _ _ _ _ => w_tsnil) (fun _ _ _ _ _ => (w_add (w_lst (w_cons (w_v 2) w_nil)) (w_v 3))))))))
 (w_sone (w_ret (w_v 1)))))⟩
theorem bi_l_settings {K : Fg} {f : Addr} {fd : FuncData} (Fd : FunD K "_law_settings" "_law_settings" (defArgs s_l_settings) (defBody s_l_settings) (defScope s_l_settings) [] [] f fd) : Binds K fd ["_law_names"] [] := FunD.bindsN Fd fun _ _ _ _ _ _ us hl => match us, hl with | [_], _ => rfl
theorem z_l_settings {P : Program} {w : World} {K : Fg} {mg : Str → Option Value} {base : Heap} (D : Dn K mg "_law_settings" s_l_settings) : C8.Cal P w K mg base 0 "_law_settings" (sp3 K fun _ _ _ => False) [] := D.zero bi_l_settings
theorem fok_l_settings {P : Program} {w : World} {K : Fg} {mg : Str → Option Value} {base : Heap} {k : Nat} {f : Addr} {fd : FuncData} (Fd : FunD K "_law_settings" "_law_settings" (defArgs s_l_settings) (defBody s_l_settings) (defScope s_l_settings) [] [] f fd) (m_reversed : mg "reversed" = none) {s : WF} (len : ∀ us μ Q, s us μ Q → us.length = 1)
    (h : ∀ us μ Q, s us μ Q → W_l_settings (E3 μ Q) (start3 N_l_settings us) μ) :
    FnOk P w K mg base C8.CX0 (k + 1) f fd ["_law_names"] (sp3 K s) :=
  fn3F Fd sc_l_settings len fun cdv A outer sh H E hr =>
    let ⟨t, ht⟩ := body_l_settings m_reversed cdv f A outer sh H E hr
    ⟨t, _, ht, h⟩
theorem cal_l_settings {P : Program} {w : World} {K : Fg} {mg : Str → Option Value} {base : Heap} {k : Nat} (D : Dn K mg "_law_settings" s_l_settings) (m_reversed : mg "reversed" = none) {s : WF} (len : ∀ us μ Q, s us μ Q → us.length = 1)
    (h : ∀ us μ Q, s us μ Q → W_l_settings (E3 μ Q) (start3 N_l_settings us) μ) :
    C8.Cal P w K mg base (k + 1) "_law_settings" (sp3 K s) [] := by
  obtain ⟨f, fd, Fd, hmg⟩ := D.ex
  exact ⟨f, fd, _, [], fok_l_settings Fd m_reversed len h, hmg, Fd.kp, bi_l_settings Fd, .nil⟩

/-! ### _law_bits -/
abbrev s_l_bits : Stmt := topS 15
abbrev N_l_bits : List Str := ["_law_hand_here", "_law_many", "_law_turn", "_law_one", "_law_k"]
theorem sc_l_bits : FnScope N_l_bits ["_law_hand_here", "_law_many"] (defScope s_l_bits) := ⟨rfl, rfl, rfl, by decide +kernel, rfl, by decide +kernel, by decide +kernel⟩
def W_l_bits (S_l_take : WF) : WSt :=
  (wSeq (wAsg (wCall S_l_take (wCons (wV 0) (wCons (wC (.int 6)) wNil))) (gN 2))
  (wSeq (wIfS (wB (wOp (sEqA id) (wV 2) (wC (.int 0)))) (wSeq (wAsg (wOp (sEqA id) (wCall S_l_take (wCons (wV 0) (wCons (wC (.int 2)) wNil))) (wC (.int 1))) (gN 3))
  (wRet (wLc (jRng1 (wCons (wV 1) wNil)) [4] (gN 4) wYes (wV 3)))) wNext)
  (wSeq (wIfS (wB (wOp (sEqA id) (wV 2) (wC (.int 1)))) (wRet (wLc (jRng1 (wCons (wV 1) wNil)) [4] (gN 4) wYes (wOp (sEqA id) (wCall S_l_take (wCons (wV 0) (wCons (wC (.int 8)) wNil))) (wC (.int 0))))) wNext)
  (wRet (wLc (jRng1 (wCons (wV 1) wNil)) [4] (gN 4) wYes (wOp (sEqA id) (wCall S_l_take (wCons (wV 0) (wCons (wC (.int 2)) wNil))) (wC (.int 1))))))))
theorem body_l_bits {P : Program} {w : World} {K : Fg} {mg : Str → Option Value} {base : Heap} {k : Nat} {k_l_take : Nat} {S_l_take : WF} (c_l_take : C8.Cal P w K mg base k_l_take "_law_take" (sp3 K S_l_take) []) (h_l_take : k_l_take ≤ k) (m_range : mg "range" = none)
    (cdv : Value) (f : Addr) (A : Around) (outer : List Env) (sh : Shared) (H : Hp) (E : XK) (hr : Room k (A.deeper (envOfC "_law_bits" (defScope s_l_bits) sh.heap.objs.size f cdv))) :
    ∃ t, WSs (cxOf CX0 P w K mg base N_l_bits "_law_bits" (defScope s_l_bits) f cdv A outer sh H E).nox (defBody s_l_bits) t (W_l_bits S_l_take) := by
  have nd := sc_l_bits.nd
  exact ⟨_, (w_scons (w_set 2 nd (w_call c_l_take hr h_l_take (by rfl) (w_cons (w_v 0) (w_cons w_int w_nil))))
 (w_scons (w_ifS (w_eq hr.units (w_v 2) w_int).t
 (w_scons (w_set 3 nd (w_eq hr.units (w_call c_l_take hr h_l_take (by rfl) (w_cons (w_v 0) (w_cons w_int w_nil))) w_int).e)
 (w_sone (w_ret (w_lc1 "_law_k" 4 rfl nd (w_rng1 (by rfl) m_range (w_cons (w_v 1) w_nil)) (blkOk_by (N := N_l_bits) (sc := defScope s_l_bits) (by decide +kernel)) (go_name (by decide)) (w_gn 4 nd) w_tsnil (w_v 3) (fun _ _ _ _ _ => (w_gn 4 nd)) (fun _ _ _ _ _ => w_tsnil) (fun _ _ _ _ _ => (w_v 3))))))
 w_snil)
 (w_scons (w_ifS (w_eq hr.units (w_v 2) w_int).t
 (w_sone (w_ret (w_lc1 "_law_k" 4 rfl nd (w_rng1 (by rfl) m_range (w_cons (w_v 1) w_nil)) (blkOk_by (N := N_l_bits) (sc := defScope s_l_bits) (by decide +kernel)) (go_name (by decide)) (w_gn 4 nd) w_tsnil (w_eq hr.units (w_call c_l_take hr h_l_take (by rfl) (w_cons (w_v 0) (w_cons w_int w_nil))) w_int).e (fun _ _ _ _ _ => (w_gn 4 nd)) (fun _ _ _ _ _ => w_tsnil) (fun _ _ _ _ _ => (w_eq hr.units (w_call c_l_take hr h_l_take (by rfl) (w_cons (w_v 0) (w_cons w_int w_nil))) w_int).e))))
 w_snil)
 (w_sone (w_ret (w_lc1 "_law_k" 4 rfl nd (w_rng1 (by rfl) m_range (w_cons (w_v 1) w_nil)) (blkOk_by (N := N_l_bits) (sc := defScope s_l_bits) (by decide +kernel)) (go_name (by decide)) (w_gn 4 nd) w_tsnil (w_eq hr.units (w_call c_l_take hr h_l_take (by rfl) (w_cons (w_v 0) (w_cons w_int w_nil))) w_int).e (fun _ _ _ _ _ => (w_gn 4 nd)) (fun _ _ _ _ _ => w_tsnil) (fun _ _ _ _ _ => (w_eq hr.units (w_call c_l_take hr h_l_take (by rfl) (w_cons (w_v 0) (w_cons w_int w_nil))) w_int).e)))))))⟩
theorem bi_l_bits {K : Fg} {f : Addr} {fd : FuncData} (Fd : FunD K "_law_bits" "_law_bits" (defArgs s_l_bits) (defBody s_l_bits) (defScope s_l_bits) [] [] f fd) : Binds K fd ["_law_hand_here", "_law_many"] [] := FunD.bindsN Fd fun _ _ _ _ _ _ us hl => match us, hl with | [_, _], _ => rfl
theorem z_l_bits {P : Program} {w : World} {K : Fg} {mg : Str → Option Value} {base : Heap} (D : Dn K mg "_law_bits" s_l_bits) : C8.Cal P w K mg base 0 "_law_bits" (sp3 K fun _ _ _ => False) [] := D.zero bi_l_bits
theorem fok_l_bits {P : Program} {w : World} {K : Fg} {mg : Str → Option Value} {base : Heap} {k : Nat} {f : Addr} {fd : FuncData} (Fd : FunD K "_law_bits" "_law_bits" (defArgs s_l_bits) (defBody s_l_bits) (defScope s_l_bits) [] [] f fd) {k_l_take : Nat} {S_l_take : WF} (c_l_take : C8.Cal P w K mg base k_l_take "_law_take" (sp3 K S_l_take) []) (h_l_take : k_l_take ≤ k) (m_range : mg "range" = none) {s : WF} (len : ∀ us μ Q, s us μ Q → us.length = 2)
    (h : ∀ us μ Q, s us μ Q → W_l_bits S_l_take (E3 μ Q) (start3 N_l_bits us) μ) :
    FnOk P w K mg base C8.CX0 (k + 1) f fd ["_law_hand_here", "_law_many"] (sp3 K s) :=
  fn3F Fd sc_l_bits len fun cdv A outer sh H E hr =>
    let ⟨t, ht⟩ := body_l_bits c_l_take h_l_take m_range cdv f A outer sh H E hr
    ⟨t, _, ht, h⟩
theorem cal_l_bits {P : Program} {w : World} {K : Fg} {mg : Str → Option Value} {base : Heap} {k : Nat} (D : Dn K mg "_law_bits" s_l_bits) {k_l_take : Nat} {S_l_take : WF} (c_l_take : C8.Cal P w K mg base k_l_take "_law_take" (sp3 K S_l_take) []) (h_l_take : k_l_take ≤ k) (m_range : mg "range" = none) {s : WF} (len : ∀ us μ Q, s us μ Q → us.length = 2)
    (h : ∀ us μ Q, s us μ Q → W_l_bits S_l_take (E3 μ Q) (start3 N_l_bits us) μ) :
    C8.Cal P w K mg base (k + 1) "_law_bits" (sp3 K s) [] := by
  obtain ⟨f, fd, Fd, hmg⟩ := D.ex
  exact ⟨f, fd, _, [], fok_l_bits Fd c_l_take h_l_take m_range len h, hmg, Fd.kp, bi_l_bits Fd, .nil⟩

/-! ### _law_form -/
abbrev s_l_form : Stmt := topS 16
abbrev N_l_form : List Str := ["_law_names", "_law_bits_here", "_law_half", "_law_off", "_law_on"]
theorem sc_l_form : FnScope N_l_form ["_law_names", "_law_bits_here"] (defScope s_l_form) := ⟨rfl, rfl, rfl, by decide +kernel, rfl, by decide +kernel, by decide +kernel⟩
def W_l_form (S_l_form : WF) : WSt :=
  (wSeq (wIfS (wB (wOp (sEqA id) (wQ qLenA (wCons (wV 0) wNil)) (wC (.int 0)))) (wRet (wOp sIx (wV 1) (wC (.int 0)))) wNext)
  (wSeq (wAsg (wOp sFdiv (wQ qLenA (wCons (wV 1) wNil)) (wC (.int 2))) (gN 2))
  (wSeq (wAsg (wCall S_l_form (wCons (wSl (wV 0) (wPart (wC (.int 1))) wNoPart) (wCons (wSl (wV 1) wNoPart (wPart (wV 2))) wNil))) (gN 3))
  (wSeq (wAsg (wCall S_l_form (wCons (wSl (wV 0) (wPart (wC (.int 1))) wNoPart) (wCons (wSl (wV 1) (wPart (wV 2)) wNoPart) wNil))) (gN 4))
  (wSeq (wIfS (wB (wOp (sEqA id) (wV 4) (wV 3))) (wRet (wV 4)) wNext)
  (wRet (wTup (wCons (wOp sIx (wV 0) (wC (.int 0))) (wCons (wV 4) (wCons (wV 3) wNil))))))))))
theorem body_l_form {P : Program} {w : World} {K : Fg} {mg : Str → Option Value} {base : Heap} {k : Nat} {k_l_form : Nat} {S_l_form : WF} (c_l_form : C8.Cal P w K mg base k_l_form "_law_form" (sp3 K S_l_form) []) (h_l_form : k_l_form ≤ k) (m_len : mg "len" = none)
    (cdv : Value) (f : Addr) (A : Around) (outer : List Env) (sh : Shared) (H : Hp) (E : XK) (hr : Room k (A.deeper (envOfC "_law_form" (defScope s_l_form) sh.heap.objs.size f cdv))) :
    ∃ t, WSs (cxOf CX0 P w K mg base N_l_form "_law_form" (defScope s_l_form) f cdv A outer sh H E).nox (defBody s_l_form) t (W_l_form S_l_form) := by
  have nd := sc_l_form.nd
  exact ⟨_, (w_scons (w_ifS (w_eq hr.units (w_len (by rfl) m_len (w_cons (w_v 0) w_nil)) w_int).t
 (w_sone (w_ret (w_ix (w_v 1) w_int)))
 w_snil)
 (w_scons (w_set 2 nd (w_fdiv (w_len (by rfl) m_len (w_cons (w_v 1) w_nil)) w_int))
 (w_scons (w_set 3 nd (w_call c_l_form hr h_l_form (by rfl) (w_cons (w_sl (w_v 0) (w_part w_int) w_noPart) (w_cons (w_sl (w_v 1) w_noPart (w_part (w_v 2))) w_nil))))
 (w_scons (w_set 4 nd (w_call c_l_form hr h_l_form (by rfl) (w_cons (w_sl (w_v 0) (w_part w_int) w_noPart) (w_cons (w_sl (w_v 1) (w_part (w_v 2)) w_noPart) w_nil))))
 (w_scons (w_ifS (w_eq hr.units (w_v 4) (w_v 3)).t
 (w_sone (w_ret (w_v 4)))
 w_snil)
 (w_sone (w_ret (w_tup (w_cons (w_ix (w_v 0) w_int) (w_cons (w_v 4) (w_cons (w_v 3) w_nil)))))))))))⟩
theorem bi_l_form {K : Fg} {f : Addr} {fd : FuncData} (Fd : FunD K "_law_form" "_law_form" (defArgs s_l_form) (defBody s_l_form) (defScope s_l_form) [] [] f fd) : Binds K fd ["_law_names", "_law_bits_here"] [] := FunD.bindsN Fd fun _ _ _ _ _ _ us hl => match us, hl with | [_, _], _ => rfl
theorem z_l_form {P : Program} {w : World} {K : Fg} {mg : Str → Option Value} {base : Heap} (D : Dn K mg "_law_form" s_l_form) : C8.Cal P w K mg base 0 "_law_form" (sp3 K fun _ _ _ => False) [] := D.zero bi_l_form
theorem fok_l_form {P : Program} {w : World} {K : Fg} {mg : Str → Option Value} {base : Heap} {k : Nat} {f : Addr} {fd : FuncData} (Fd : FunD K "_law_form" "_law_form" (defArgs s_l_form) (defBody s_l_form) (defScope s_l_form) [] [] f fd) {k_l_form : Nat} {S_l_form : WF} (c_l_form : C8.Cal P w K mg base k_l_form "_law_form" (sp3 K S_l_form) []) (h_l_form : k_l_form ≤ k) (m_len : mg "len" = none) {s : WF} (len : ∀ us μ Q, s us μ Q → us.length = 2)
    (h : ∀ us μ Q, s us μ Q → W_l_form S_l_form (E3 μ Q) (start3 N_l_form us) μ) :
    FnOk P w K mg base C8.CX0 (k + 1) f fd ["_law_names", "_law_bits_here"] (sp3 K s) :=
  fn3F Fd sc_l_form len fun cdv A outer sh H E hr =>
    let ⟨t, ht⟩ := body_l_form c_l_form h_l_form m_len cdv f A outer sh H E hr
    ⟨t, _, ht, h⟩
theorem cal_l_form {P : Program} {w : World} {K : Fg} {mg : Str → Option Value} {base : Heap} {k : Nat} (D : Dn K mg "_law_form" s_l_form) {k_l_form : Nat} {S_l_form : WF} (c_l_form : C8.Cal P w K mg base k_l_form "_law_form" (sp3 K S_l_form) []) (h_l_form : k_l_form ≤ k) (m_len : mg "len" = none) {s : WF} (len : ∀ us μ Q, s us μ Q → us.length = 2)
    (h : ∀ us μ Q, s us μ Q → W_l_form S_l_form (E3 μ Q) (start3 N_l_form us) μ) :
    C8.Cal P w K mg base (k + 1) "_law_form" (sp3 K s) [] := by
  obtain ⟨f, fd, Fd, hmg⟩ := D.ex
  exact ⟨f, fd, _, [], fok_l_form Fd c_l_form h_l_form m_len len h, hmg, Fd.kp, bi_l_form Fd, .nil⟩

/-! ### _law_whole -/
abbrev s_l_whole : Stmt := topS 17
abbrev N_l_whole : List Str := ["_law_thing"]
theorem sc_l_whole : FnScope N_l_whole ["_law_thing"] (defScope s_l_whole) := ⟨rfl, rfl, rfl, by decide +kernel, rfl, by decide +kernel, by decide +kernel⟩
def W_l_whole : WSt :=
  (wRet (wAndV (wIsi "int" (wV 0)) (wNotV (wIsi "bool" (wV 0)))))
theorem body_l_whole {P : Program} {w : World} {K : Fg} {mg : Str → Option Value} {base : Heap} {k : Nat} (m_isinstance : mg "isinstance" = none) (m_int : mg "int" = none) (m_bool : mg "bool" = none)
    (cdv : Value) (f : Addr) (A : Around) (outer : List Env) (sh : Shared) (H : Hp) (E : XK) (hr : Room k (A.deeper (envOfC "_law_whole" (defScope s_l_whole) sh.heap.objs.size f cdv))) :
    ∃ t, WSs (cxOf CX0 P w K mg base N_l_whole "_law_whole" (defScope s_l_whole) f cdv A outer sh H E).nox (defBody s_l_whole) t (W_l_whole) := by
  have nd := sc_l_whole.nd
  exact ⟨_, (w_sone (w_ret (w_andV (w_isi (by rfl) m_isinstance boot_isinstance (by rfl) m_int boot_int' (w_v 0)) (w_one (w_notV (w_isi (by rfl) m_isinstance boot_isinstance (by rfl) m_bool boot_bool' (w_v 0)))))))⟩
theorem bi_l_whole {K : Fg} {f : Addr} {fd : FuncData} (Fd : FunD K "_law_whole" "_law_whole" (defArgs s_l_whole) (defBody s_l_whole) (defScope s_l_whole) [] [] f fd) : Binds K fd ["_law_thing"] [] := FunD.bindsN Fd fun _ _ _ _ _ _ us hl => match us, hl with | [_], _ => rfl
theorem z_l_whole {P : Program} {w : World} {K : Fg} {mg : Str → Option Value} {base : Heap} (D : Dn K mg "_law_whole" s_l_whole) : C8.Cal P w K mg base 0 "_law_whole" (sp3 K fun _ _ _ => False) [] := D.zero bi_l_whole
theorem fok_l_whole {P : Program} {w : World} {K : Fg} {mg : Str → Option Value} {base : Heap} {k : Nat} {f : Addr} {fd : FuncData} (Fd : FunD K "_law_whole" "_law_whole" (defArgs s_l_whole) (defBody s_l_whole) (defScope s_l_whole) [] [] f fd) (m_isinstance : mg "isinstance" = none) (m_int : mg "int" = none) (m_bool : mg "bool" = none) {s : WF} (len : ∀ us μ Q, s us μ Q → us.length = 1)
    (h : ∀ us μ Q, s us μ Q → W_l_whole (E3 μ Q) (start3 N_l_whole us) μ) :
    FnOk P w K mg base C8.CX0 (k + 1) f fd ["_law_thing"] (sp3 K s) :=
  fn3F Fd sc_l_whole len fun cdv A outer sh H E hr =>
    let ⟨t, ht⟩ := body_l_whole m_isinstance m_int m_bool cdv f A outer sh H E hr
    ⟨t, _, ht, h⟩
theorem cal_l_whole {P : Program} {w : World} {K : Fg} {mg : Str → Option Value} {base : Heap} {k : Nat} (D : Dn K mg "_law_whole" s_l_whole) (m_isinstance : mg "isinstance" = none) (m_int : mg "int" = none) (m_bool : mg "bool" = none) {s : WF} (len : ∀ us μ Q, s us μ Q → us.length = 1)
    (h : ∀ us μ Q, s us μ Q → W_l_whole (E3 μ Q) (start3 N_l_whole us) μ) :
    C8.Cal P w K mg base (k + 1) "_law_whole" (sp3 K s) [] := by
  obtain ⟨f, fd, Fd, hmg⟩ := D.ex
  exact ⟨f, fd, _, [], fok_l_whole Fd m_isinstance m_int m_bool len h, hmg, Fd.kp, bi_l_whole Fd, .nil⟩

/-! ### _law_alike -/
abbrev s_l_alike : Stmt := topS 18
abbrev N_l_alike : List Str := ["_law_told", "_law_due", "_law_k"]
theorem sc_l_alike : FnScope N_l_alike ["_law_told", "_law_due"] (defScope s_l_alike) := ⟨rfl, rfl, rfl, by decide +kernel, rfl, by decide +kernel, by decide +kernel⟩
def W_l_alike (S_l_alike : WF) (S_l_whole : WF) : WSt :=
  (wSeq (wIfS (wTru (wIsi "bool" (wV 1))) (wRet (wAndV (wIsi "bool" (wV 0)) (wOp (sEqA id) (wV 0) (wV 1)))) wNext)
  (wSeq (wIfS (wTru (wIsi "tuple" (wV 1))) (wSeq (wIfS (wOr (wNot (wTru (wIsi "tuple" (wV 0)))) (wB (wOp (sEqA not) (wQ qLenA (wCons (wV 0) wNil)) (wQ qLenA (wCons (wV 1) wNil))))) (wRet (wC (.bool false))) wNext)
  (wRet (wOp (sEqA id) (wQ qLenA (wCons (wLc (jRng1 (wCons (wQ qLenA (wCons (wV 1) wNil)) wNil)) [2] (gN 2) (wNot (wTru (wCall S_l_alike (wCons (wOp sIx (wV 0) (wV 2)) (wCons (wOp sIx (wV 1) (wV 2)) wNil))))) (wV 2)) wNil)) (wC (.int 0))))) wNext)
  (wSeq (wIfS (wTru (wIsi "int" (wV 1))) (wRet (wAndV (wCall S_l_whole (wCons (wV 0) wNil)) (wOp (sEqA id) (wV 0) (wV 1)))) wNext)
  (wSeq (wIfS (wTru (wIsi "str" (wV 1))) (wRet (wAndV (wIsi "str" (wV 0)) (wOp (sEqA id) (wV 0) (wV 1)))) wNext)
  (wRet (wAndV (wOp (sIsN id) (wV 1) (wC .none)) (wOp (sIsN id) (wV 0) (wC .none))))))))
theorem body_l_alike {P : Program} {w : World} {K : Fg} {mg : Str → Option Value} {base : Heap} {k : Nat} {k_l_alike : Nat} {S_l_alike : WF} (c_l_alike : C8.Cal P w K mg base k_l_alike "_law_alike" (sp3 K S_l_alike) []) (h_l_alike : k_l_alike ≤ k) {k_l_whole : Nat} {S_l_whole : WF} (c_l_whole : C8.Cal P w K mg base k_l_whole "_law_whole" (sp3 K S_l_whole) []) (h_l_whole : k_l_whole ≤ k) (m_isinstance : mg "isinstance" = none) (m_bool : mg "bool" = none) (m_tuple : mg "tuple" = none) (m_len : mg "len" = none) (m_range : mg "range" = none) (m_int : mg "int" = none) (m_str : mg "str" = none)
    (cdv : Value) (f : Addr) (A : Around) (outer : List Env) (sh : Shared) (H : Hp) (E : XK) (hr : Room k (A.deeper (envOfC "_law_alike" (defScope s_l_alike) sh.heap.objs.size f cdv))) :
    ∃ t, WSs (cxOf CX0 P w K mg base N_l_alike "_law_alike" (defScope s_l_alike) f cdv A outer sh H E).nox (defBody s_l_alike) t (W_l_alike S_l_alike S_l_whole) := by
  have nd := sc_l_alike.nd
  exact ⟨_, (w_scons (w_ifS (w_tru (w_isi (by rfl) m_isinstance boot_isinstance (by rfl) m_bool boot_bool' (w_v 1)))
 (w_sone (w_ret (w_andV (w_isi (by rfl) m_isinstance boot_isinstance (by rfl) m_bool boot_bool' (w_v 0)) (w_one (w_eq hr.units (w_v 0) (w_v 1)).e))))
 w_snil)
 (w_scons (w_ifS (w_tru (w_isi (by rfl) m_isinstance boot_isinstance (by rfl) m_tuple boot_tuple' (w_v 1)))
 (w_scons (w_ifS (w_ww (w_or (w_nott (w_tru (w_isi (by rfl) m_isinstance boot_isinstance (by rfl) m_tuple boot_tuple' (w_v 0)))) (w_or1 (w_ne hr.units (w_len (by rfl) m_len (w_cons (w_v 0) w_nil)) (w_len (by rfl) m_len (w_cons (w_v 1) w_nil))).t)))
 (w_sone (w_ret w_bl))
 w_snil)
 (w_sone (w_ret (w_eq hr.units (w_len (by rfl) m_len (w_cons (w_lc1 "_law_k" 2 rfl nd (w_rng1 (by rfl) m_range (w_cons (w_len (by rfl) m_len (w_cons (w_v 1) w_nil)) w_nil)) (blkOk_by (N := N_l_alike) (sc := defScope s_l_alike) (by decide +kernel)) (go_name (by decide)) (w_gn 2 nd) (w_tsone (w_nott (w_tru (w_call c_l_alike hr h_l_alike (by rfl) (w_cons (w_ix (w_v 0) (w_v 2)) (w_cons (w_ix (w_v 1) (w_v 2)) w_nil)))))) (w_v 2) (fun _ _ _ _ _ => (w_gn 2 nd)) (fun _ _ _ _ _ => (w_tsone (w_nott (w_tru (w_call c_l_alike hr h_l_alike (by rfl) (w_cons (w_ix (w_v 0) (w_v 2)) (w_cons (w_ix (w_v 1) (w_v 2)) w_nil))))))) (fun _ _ _ _ _ => (w_v 2))) w_nil)) w_int).e)))
 w_snil)
 (w_scons (w_ifS (w_tru (w_isi (by rfl) m_isinstance boot_isinstance (by rfl) m_int boot_int' (w_v 1)))
 (w_sone (w_ret (w_andV (w_call c_l_whole hr h_l_whole (by rfl) (w_cons (w_v 0) w_nil)) (w_one (w_eq hr.units (w_v 0) (w_v 1)).e))))
 w_snil)
 (w_scons (w_ifS (w_tru (w_isi (by rfl) m_isinstance boot_isinstance (by rfl) m_str boot_str' (w_v 1)))
 (w_sone (w_ret (w_andV (w_isi (by rfl) m_isinstance boot_isinstance (by rfl) m_str boot_str' (w_v 0)) (w_one (w_eq hr.units (w_v 0) (w_v 1)).e))))
 w_snil)
 (w_sone (w_ret (w_andV (w_isN (w_v 1)).e (w_one (w_isN (w_v 0)).e))))))))⟩
theorem bi_l_alike {K : Fg} {f : Addr} {fd : FuncData} (Fd : FunD K "_law_alike" "_law_alike" (defArgs s_l_alike) (defBody s_l_alike) (defScope s_l_alike) [] [] f fd) : Binds K fd ["_law_told", "_law_due"] [] := FunD.bindsN Fd fun _ _ _ _ _ _ us hl => match us, hl with | [_, _], _ => rfl
theorem z_l_alike {P : Program} {w : World} {K : Fg} {mg : Str → Option Value} {base : Heap} (D : Dn K mg "_law_alike" s_l_alike) : C8.Cal P w K mg base 0 "_law_alike" (sp3 K fun _ _ _ => False) [] := D.zero bi_l_alike
theorem fok_l_alike {P : Program} {w : World} {K : Fg} {mg : Str → Option Value} {base : Heap} {k : Nat} {f : Addr} {fd : FuncData} (Fd : FunD K "_law_alike" "_law_alike" (defArgs s_l_alike) (defBody s_l_alike) (defScope s_l_alike) [] [] f fd) {k_l_alike : Nat} {S_l_alike : WF} (c_l_alike : C8.Cal P w K mg base k_l_alike "_law_alike" (sp3 K S_l_alike) []) (h_l_alike : k_l_alike ≤ k) {k_l_whole : Nat} {S_l_whole : WF} (c_l_whole : C8.Cal P w K mg base k_l_whole "_law_whole" (sp3 K S_l_whole) []) (h_l_whole : k_l_whole ≤ k) (m_isinstance : mg "isinstance" = none) (m_bool : mg "bool" = none) (m_tuple : mg "tuple" = none) (m_len : mg "len" = none) (m_range : mg "range" = none) (m_int : mg "int" = none) (m_str : mg "str" = none) {s : WF} (len : ∀ us μ Q, s us μ Q → us.length = 2)
    (h : ∀ us μ Q, s us μ Q → W_l_alike S_l_alike S_l_whole (E3 μ Q) (start3 N_l_alike us) μ) :
    FnOk P w K mg base C8.CX0 (k + 1) f fd ["_law_told", "_law_due"] (sp3 K s) :=
  fn3F Fd sc_l_alike len fun cdv A outer sh H E hr =>
    let ⟨t, ht⟩ := body_l_alike c_l_alike h_l_alike c_l_whole h_l_whole m_isinstance m_bool m_tuple m_len m_range m_int m_str cdv f A outer sh H E hr
    ⟨t, _, ht, h⟩
theorem cal_l_alike {P : Program} {w : World} {K : Fg} {mg : Str → Option Value} {base : Heap} {k : Nat} (D : Dn K mg "_law_alike" s_l_alike) {k_l_alike : Nat} {S_l_alike : WF} (c_l_alike : C8.Cal P w K mg base k_l_alike "_law_alike" (sp3 K S_l_alike) []) (h_l_alike : k_l_alike ≤ k) {k_l_whole : Nat} {S_l_whole : WF} (c_l_whole : C8.Cal P w K mg base k_l_whole "_law_whole" (sp3 K S_l_whole) []) (h_l_whole : k_l_whole ≤ k) (m_isinstance : mg "isinstance" = none) (m_bool : mg "bool" = none) (m_tuple : mg "tuple" = none) (m_len : mg "len" = none) (m_range : mg "range" = none) (m_int : mg "int" = none) (m_str : mg "str" = none) {s : WF} (len : ∀ us μ Q, s us μ Q → us.length = 2)
    (h : ∀ us μ Q, s us μ Q → W_l_alike S_l_alike S_l_whole (E3 μ Q) (start3 N_l_alike us) μ) :
    C8.Cal P w K mg base (k + 1) "_law_alike" (sp3 K s) [] := by
  obtain ⟨f, fd, Fd, hmg⟩ := D.ex
  exact ⟨f, fd, _, [], fok_l_alike Fd c_l_alike h_l_alike c_l_whole h_l_whole m_isinstance m_bool m_tuple m_len m_range m_int m_str len h, hmg, Fd.kp, bi_l_alike Fd, .nil⟩

/-! ### _law_strewn -/
abbrev s_l_strewn : Stmt := topS 19
abbrev N_l_strewn : List Str := ["_law_hand_here", "_law_things", "_law_told"]
theorem sc_l_strewn : FnScope N_l_strewn ["_law_hand_here", "_law_things"] (defScope s_l_strewn) := ⟨rfl, rfl, rfl, by decide +kernel, rfl, by decide +kernel, by decide +kernel⟩
def W_l_strewn (S_l_shuffled : WF) (S_l_take : WF) : WSt :=
  (wSeq (wAsg (wCall S_l_shuffled (wCons (wV 0) (wCons (wOp sAdd (wQ qList (wCons (wV 1) wNil)) (wQ qList (wCons (wSl (wV 1) wNoPart (wPart (wCall S_l_take (wCons (wV 0) (wCons (wC (.int 3)) wNil))))) wNil))) wNil))) (gN 2))
  (wSeq (wIfS (wB (wOp (sEqA id) (wCall S_l_take (wCons (wV 0) (wCons (wC (.int 2)) wNil))) (wC (.int 0)))) (wRet (wQ qTuple (wCons (wV 2) wNil))) wNext)
  (wRet (wV 2))))
theorem body_l_strewn {P : Program} {w : World} {K : Fg} {mg : Str → Option Value} {base : Heap} {k : Nat} {k_l_shuffled : Nat} {S_l_shuffled : WF} (c_l_shuffled : C8.Cal P w K mg base k_l_shuffled "_law_shuffled" (sp3 K S_l_shuffled) []) (h_l_shuffled : k_l_shuffled ≤ k) {k_l_take : Nat} {S_l_take : WF} (c_l_take : C8.Cal P w K mg base k_l_take "_law_take" (sp3 K S_l_take) []) (h_l_take : k_l_take ≤ k) (m_list : mg "list" = none) (m_tuple : mg "tuple" = none)
    (cdv : Value) (f : Addr) (A : Around) (outer : List Env) (sh : Shared) (H : Hp) (E : XK) (hr : Room k (A.deeper (envOfC "_law_strewn" (defScope s_l_strewn) sh.heap.objs.size f cdv))) :
    ∃ t, WSs (cxOf CX0 P w K mg base N_l_strewn "_law_strewn" (defScope s_l_strewn) f cdv A outer sh H E).nox (defBody s_l_strewn) t (W_l_strewn S_l_shuffled S_l_take) := by
  have nd := sc_l_strewn.nd
  exact ⟨_, (w_scons (w_set 2 nd (w_call c_l_shuffled hr h_l_shuffled (by rfl) (w_cons (w_v 0) (w_cons (w_add (w_listc (by rfl) m_list (w_cons (w_v 1) w_nil)) (w_listc (by rfl) m_list (w_cons (w_sl (w_v 1) w_noPart (w_part (w_call c_l_take hr h_l_take (by rfl) (w_cons (w_v 0) (w_cons w_int w_nil))))) w_nil))) w_nil))))
 (w_scons (w_ifS (w_eq hr.units (w_call c_l_take hr h_l_take (by rfl) (w_cons (w_v 0) (w_cons w_int w_nil))) w_int).t
 (w_sone (w_ret (w_tuplec (by rfl) m_tuple (w_cons (w_v 2) w_nil))))
 w_snil)
 (w_sone (w_ret (w_v 2)))))⟩
theorem bi_l_strewn {K : Fg} {f : Addr} {fd : FuncData} (Fd : FunD K "_law_strewn" "_law_strewn" (defArgs s_l_strewn) (defBody s_l_strewn) (defScope s_l_strewn) [] [] f fd) : Binds K fd ["_law_hand_here", "_law_things"] [] := FunD.bindsN Fd fun _ _ _ _ _ _ us hl => match us, hl with | [_, _], _ => rfl
theorem z_l_strewn {P : Program} {w : World} {K : Fg} {mg : Str → Option Value} {base : Heap} (D : Dn K mg "_law_strewn" s_l_strewn) : C8.Cal P w K mg base 0 "_law_strewn" (sp3 K fun _ _ _ => False) [] := D.zero bi_l_strewn
theorem fok_l_strewn {P : Program} {w : World} {K : Fg} {mg : Str → Option Value} {base : Heap} {k : Nat} {f : Addr} {fd : FuncData} (Fd : FunD K "_law_strewn" "_law_strewn" (defArgs s_l_strewn) (defBody s_l_strewn) (defScope s_l_strewn) [] [] f fd) {k_l_shuffled : Nat} {S_l_shuffled : WF} (c_l_shuffled : C8.Cal P w K mg base k_l_shuffled "_law_shuffled" (sp3 K S_l_shuffled) []) (h_l_shuffled : k_l_shuffled ≤ k) {k_l_take : Nat} {S_l_take : WF} (c_l_take : C8.Cal P w K mg base k_l_take "_law_take" (sp3 K S_l_take) []) (h_l_take : k_l_take ≤ k) (m_list : mg "list" = none) (m_tuple : mg "tuple" = none) {s : WF} (len : ∀ us μ Q, s us μ Q → us.length = 2)
    (h : ∀ us μ Q, s us μ Q → W_l_strewn S_l_shuffled S_l_take (E3 μ Q) (start3 N_l_strewn us) μ) :
    FnOk P w K mg base C8.CX0 (k + 1) f fd ["_law_hand_here", "_law_things"] (sp3 K s) :=
  fn3F Fd sc_l_strewn len fun cdv A outer sh H E hr =>
    let ⟨t, ht⟩ := body_l_strewn c_l_shuffled h_l_shuffled c_l_take h_l_take m_list m_tuple cdv f A outer sh H E hr
    ⟨t, _, ht, h⟩
theorem cal_l_strewn {P : Program} {w : World} {K : Fg} {mg : Str → Option Value} {base : Heap} {k : Nat} (D : Dn K mg "_law_strewn" s_l_strewn) {k_l_shuffled : Nat} {S_l_shuffled : WF} (c_l_shuffled : C8.Cal P w K mg base k_l_shuffled "_law_shuffled" (sp3 K S_l_shuffled) []) (h_l_shuffled : k_l_shuffled ≤ k) {k_l_take : Nat} {S_l_take : WF} (c_l_take : C8.Cal P w K mg base k_l_take "_law_take" (sp3 K S_l_take) []) (h_l_take : k_l_take ≤ k) (m_list : mg "list" = none) (m_tuple : mg "tuple" = none) {s : WF} (len : ∀ us μ Q, s us μ Q → us.length = 2)
    (h : ∀ us μ Q, s us μ Q → W_l_strewn S_l_shuffled S_l_take (E3 μ Q) (start3 N_l_strewn us) μ) :
    C8.Cal P w K mg base (k + 1) "_law_strewn" (sp3 K s) [] := by
  obtain ⟨f, fd, Fd, hmg⟩ := D.ex
  exact ⟨f, fd, _, [], fok_l_strewn Fd c_l_shuffled h_l_shuffled c_l_take h_l_take m_list m_tuple len h, hmg, Fd.kp, bi_l_strewn Fd, .nil⟩

/-! ### law -/
abbrev s_p_law : Stmt := topS 20
abbrev N_p_law : List Str := ["_law_script", "_law_hand_here", "_law_names", "_law_settings_here", "_law_row", "_law_condition", "_law_told", "_law_good", "_law_first", "_law_listed", "_law_kept", "_law_back", "_law_wider", "_law_spread", "_law_setting", "_law_inner", "_law_k", "_law_switch"]
theorem sc_p_law : FnScope N_p_law ["_law_script"] (defScope s_p_law) := ⟨rfl, rfl, rfl, by decide +kernel, rfl, by decide +kernel, by decide +kernel⟩
def W_p_law (S_l_hand : WF) (S_l_switch_names : WF) (S_l_take : WF) (S_l_settings : WF) (S_l_bits : WF) (S_l_form : WF) (S_p_all_settings : WFG) (S_l_strewn : WF) (S_l_alike : WF) (S_p_count_settings : WF) (S_p_first_setting : WF) (S_p_from_settings : WF) : WSt :=
  (wSeq (wAsg (wCall S_l_hand (wCons (wV 0) wNil)) (gN 1))
  (wSeq (wAsg (wCall S_l_switch_names (wCons (wV 1) (wCons (wCall S_l_take (wCons (wV 1) (wCons (wC (.int 6)) wNil))) wNil))) (gN 2))
  (wSeq (wAsg (wCall S_l_settings (wCons (wV 2) wNil)) (gN 3))
  (wSeq (wAsg (wCall S_l_bits (wCons (wV 1) (wCons (wQ qLenA (wCons (wV 3) wNil)) wNil))) (gN 4))
  (wSeq (wAsg (wCall S_l_form (wCons (wV 2) (wCons (wV 4) wNil))) (gN 5))
  (wSeq (wAsg (wLcG S_p_all_settings (wCons (wCall S_l_strewn (wCons (wV 1) (wCons (wV 2) wNil))) wNil)) (gN 6))
  (wSeq (wIfS (wNot (wTru (wCall S_l_alike (wCons (wQ qTuple (wCons (wV 6) wNil)) (wCons (wQ qTuple (wCons (wLc (jSeq (wV 3)) [14] (gN 14) wYes (wQ qTuple (wCons (wV 14) wNil))) wNil)) wNil))))) (wRet (wC (.bool false))) wNext)
  (wSeq (wAsg (wLc (jRng1 (wCons (wQ qLenA (wCons (wV 3) wNil)) wNil)) [16] (gN 16) (wTru (wOp sIx (wV 4) (wV 16))) (wOp sIx (wV 3) (wV 16))) (gN 7))
  (wSeq (wIfS (wNot (wTru (wCall S_l_alike (wCons (wCall S_p_count_settings (wCons (wV 5) (wCons (wCall S_l_strewn (wCons (wV 1) (wCons (wV 2) wNil))) wNil))) (wCons (wQ qLenA (wCons (wV 7) wNil)) wNil))))) (wRet (wC (.bool false))) wNext)
  (wSeq (wAsg (wCall S_p_first_setting (wCons (wV 5) wNil)) (gN 8))
  (wSeq (wIfS (wAnd (wB (wOp (sEqA id) (wQ qLenA (wCons (wV 7) wNil)) (wC (.int 0)))) (wB (wOp (sIsN not) (wV 8) (wC .none)))) (wRet (wC (.bool false))) wNext)
  (wSeq (wIfS (wAnd (wB (wOp sGt (wQ qLenA (wCons (wV 7) wNil)) (wC (.int 0)))) (wNot (wTru (wCall S_l_alike (wCons (wV 8) (wCons (wQ qTuple (wCons (wOp sIx (wV 7) (wC (.int 0))) wNil)) wNil)))))) (wRet (wC (.bool false))) wNext)
  (wSeq (wAsg (wLc (jSeq (wV 7)) [14] (gN 14) wYes (wCall S_l_strewn (wCons (wV 1) (wCons (wV 14) wNil)))) (gN 9))
  (wSeq (wAsg (wQ qRepr (wCons (wV 9) wNil)) (gN 10))
  (wSeq (wAsg (wCall S_p_from_settings (wCons (wCall S_l_strewn (wCons (wV 1) (wCons (wV 9) wNil))) (wCons (wCall S_l_strewn (wCons (wV 1) (wCons (wV 2) wNil))) wNil))) (gN 11))
  (wSeq (wIfS (wOr (wB (wOp (sEqA not) (wQ qRepr (wCons (wV 9) wNil)) (wV 10))) (wNot (wTru (wCall S_l_alike (wCons (wV 11) (wCons (wV 5) wNil)))))) (wRet (wC (.bool false))) wNext)
  (wSeq (wAsg (wQ qSortA (wCons (wOp sAdd (wV 2) (wLst (wCons (wC (.str (Str.ofString "Q9"))) wNil))) wNil)) (gN 12))
  (wSeq (wIfS (wNot (wTru (wCall S_l_alike (wCons (wCall S_p_count_settings (wCons (wV 5) (wCons (wCall S_l_strewn (wCons (wV 1) (wCons (wV 12) wNil))) wNil))) (wCons (wOp sMul (wC (.int 2)) (wQ qLenA (wCons (wV 7) wNil))) wNil))))) (wRet (wC (.bool false))) wNext)
  (wSeq (wAsg (wLstM wNil) (gN 13))
  (wSeq (wFor (jSeq (wCall S_l_settings (wCons (wV 12) wNil))) (gN 14) (wSeq (wAsg (wLc (jSeq (wV 14)) [17] (gN 17) (wB (wOp (sEqA not) (wV 17) (wC (.str (Str.ofString "Q9"))))) (wV 17)) (gN 15))
  (wDrop (wML mAppend (wV 13) (wCons (wAndV (wOp (sInD not) (wC (.str (Str.ofString "Q9"))) (wV 14)) (wOp (sInD id) (wV 15) (wV 7))) wNil)))))
  (wFrz 13 (wRet (wCall S_l_alike (wCons (wCall S_p_from_settings (wCons (wV 9) (wCons (wCall S_l_strewn (wCons (wV 1) (wCons (wV 12) wNil))) wNil))) (wCons (wCall S_l_form (wCons (wV 12) (wCons (wV 13) wNil))) wNil)))))))))))))))))))))))))
theorem body_p_law {P : Program} {w : World} {K : Fg} {mg : Str → Option Value} {base : Heap} {k : Nat} {k_l_hand : Nat} {S_l_hand : WF} (c_l_hand : C8.Cal P w K mg base k_l_hand "_law_hand" (sp3 K S_l_hand) []) (h_l_hand : k_l_hand ≤ k) {k_l_switch_names : Nat} {S_l_switch_names : WF} (c_l_switch_names : C8.Cal P w K mg base k_l_switch_names "_law_switch_names" (sp3 K S_l_switch_names) []) (h_l_switch_names : k_l_switch_names ≤ k) {k_l_take : Nat} {S_l_take : WF} (c_l_take : C8.Cal P w K mg base k_l_take "_law_take" (sp3 K S_l_take) []) (h_l_take : k_l_take ≤ k) {k_l_settings : Nat} {S_l_settings : WF} (c_l_settings : C8.Cal P w K mg base k_l_settings "_law_settings" (sp3 K S_l_settings) []) (h_l_settings : k_l_settings ≤ k) {k_l_bits : Nat} {S_l_bits : WF} (c_l_bits : C8.Cal P w K mg base k_l_bits "_law_bits" (sp3 K S_l_bits) []) (h_l_bits : k_l_bits ≤ k) {k_l_form : Nat} {S_l_form : WF} (c_l_form : C8.Cal P w K mg base k_l_form "_law_form" (sp3 K S_l_form) []) (h_l_form : k_l_form ≤ k) {k_p_all_settings : Nat} {S_p_all_settings : WFG} (c_p_all_settings : CalG P w K mg base k_p_all_settings "all_settings" (spG3 K S_p_all_settings)) (h_p_all_settings : k_p_all_settings + 1 ≤ k) {k_l_strewn : Nat} {S_l_strewn : WF} (c_l_strewn : C8.Cal P w K mg base k_l_strewn "_law_strewn" (sp3 K S_l_strewn) []) (h_l_strewn : k_l_strewn ≤ k) {k_l_alike : Nat} {S_l_alike : WF} (c_l_alike : C8.Cal P w K mg base k_l_alike "_law_alike" (sp3 K S_l_alike) []) (h_l_alike : k_l_alike ≤ k) {k_p_count_settings : Nat} {S_p_count_settings : WF} (c_p_count_settings : C8.Cal P w K mg base k_p_count_settings "count_settings" (sp3 K S_p_count_settings) []) (h_p_count_settings : k_p_count_settings ≤ k) {k_p_first_setting : Nat} {S_p_first_setting : WF} (c_p_first_setting : C8.Cal P w K mg base k_p_first_setting "first_setting" (sp3 K S_p_first_setting) []) (h_p_first_setting : k_p_first_setting ≤ k) {k_p_from_settings : Nat} {S_p_from_settings : WF} (c_p_from_settings : C8.Cal P w K mg base k_p_from_settings "from_settings" (sp3 K S_p_from_settings) []) (h_p_from_settings : k_p_from_settings ≤ k) (m_len : mg "len" = none) (m_tuple : mg "tuple" = none) (m_range : mg "range" = none) (m_repr : mg "repr" = none) (m_sorted : mg "sorted" = none)
    (cdv : Value) (f : Addr) (sh : Shared) (H : Hp) (E : XK) (hr : Room k (callerA.deeper (envOfC "law" (defScope s_p_law) sh.heap.objs.size f cdv))) :
    ∃ t, WSs (cxOf CX0 P w K mg base N_p_law "law" (defScope s_p_law) f cdv callerA [] sh H E).nox (defBody s_p_law) t (W_p_law S_l_hand S_l_switch_names S_l_take S_l_settings S_l_bits S_l_form S_p_all_settings S_l_strewn S_l_alike S_p_count_settings S_p_first_setting S_p_from_settings) := by
  have nd := sc_p_law.nd
  exact ⟨_, (w_scons (w_set 1 nd (w_call c_l_hand hr h_l_hand (by rfl) (w_cons (w_v 0) w_nil)))
 (w_scons (w_set 2 nd (w_call c_l_switch_names hr h_l_switch_names (by rfl) (w_cons (w_v 1) (w_cons (w_call c_l_take hr h_l_take (by rfl) (w_cons (w_v 1) (w_cons w_int w_nil))) w_nil))))
 (w_scons (w_set 3 nd (w_call c_l_settings hr h_l_settings (by rfl) (w_cons (w_v 2) w_nil)))
 (w_scons (w_set 4 nd (w_call c_l_bits hr h_l_bits (by rfl) (w_cons (w_v 1) (w_cons (w_len (by rfl) m_len (w_cons (w_v 3) w_nil)) w_nil))))
 (w_scons (w_set 5 nd (w_call c_l_form hr h_l_form (by rfl) (w_cons (w_v 2) (w_cons (w_v 4) w_nil))))
 (w_scons (w_setLcG 6 nd (sw_true rfl rfl rfl (by decide +kernel)) c_p_all_settings hr h_p_all_settings (by rfl) (w_cons (w_call c_l_strewn hr h_l_strewn (by rfl) (w_cons (w_v 1) (w_cons (w_v 2) w_nil))) w_nil))
 (w_scons (w_ifS (w_nott (w_tru (w_call c_l_alike hr h_l_alike (by rfl) (w_cons (w_tuplec (by rfl) m_tuple (w_cons (w_v 6) w_nil)) (w_cons (w_tuplec (by rfl) m_tuple (w_cons (w_lc1 "_law_setting" 14 rfl nd (w_seq (w_v 3)) (blkOk_by (N := N_p_law) (sc := defScope s_p_law) (by decide +kernel)) (go_name (by decide)) (w_gn 14 nd) w_tsnil (w_tuplec (by rfl) m_tuple (w_cons (w_v 14) w_nil)) (fun _ _ _ _ _ => (w_gn 14 nd)) (fun _ _ _ _ _ => w_tsnil) (fun _ _ _ _ _ => (w_tuplec (by rfl) m_tuple (w_cons (w_v 14) w_nil)))) w_nil)) w_nil)))))
 (w_sone (w_ret w_bl))
 w_snil)
 (w_scons (w_setLc1 7 "_law_k" 16 rfl nd (sw_true rfl rfl rfl (by decide +kernel)) (w_rng1 (by rfl) m_range (w_cons (w_len (by rfl) m_len (w_cons (w_v 3) w_nil)) w_nil)) (blkOk_by (N := N_p_law) (sc := defScope s_p_law) (by decide +kernel)) (go_name (by decide)) (w_gn 16 nd) (w_tsone (w_tru (w_ix (w_v 4) (w_v 16)))) (w_ix (w_v 3) (w_v 16)) (fun _ _ _ _ _ => (w_gn 16 nd)) (fun _ _ _ _ _ => (w_tsone (w_tru (w_ix (w_v 4) (w_v 16))))) (fun _ _ _ _ _ => (w_ix (w_v 3) (w_v 16))))
 (w_scons (w_ifS (w_nott (w_tru (w_call c_l_alike hr h_l_alike (by rfl) (w_cons (w_call c_p_count_settings hr h_p_count_settings (by rfl) (w_cons (w_v 5) (w_cons (w_call c_l_strewn hr h_l_strewn (by rfl) (w_cons (w_v 1) (w_cons (w_v 2) w_nil))) w_nil))) (w_cons (w_len (by rfl) m_len (w_cons (w_v 7) w_nil)) w_nil)))))
 (w_sone (w_ret w_bl))
 w_snil)
 (w_scons (w_set 8 nd (w_call c_p_first_setting hr h_p_first_setting (by rfl) (w_cons (w_v 5) w_nil)))
 (w_scons (w_ifS (w_ww (w_and (w_eq hr.units (w_len (by rfl) m_len (w_cons (w_v 7) w_nil)) w_int).t (w_and1 (w_isnotN (w_v 8)).t)))
 (w_sone (w_ret w_bl))
 w_snil)
 (w_scons (w_ifS (w_ww (w_and (w_gt (w_len (by rfl) m_len (w_cons (w_v 7) w_nil)) w_int).t (w_and1 (w_nott (w_tru (w_call c_l_alike hr h_l_alike (by rfl) (w_cons (w_v 8) (w_cons (w_tuplec (by rfl) m_tuple (w_cons (w_ix (w_v 7) w_int) w_nil)) w_nil))))))))
 (w_sone (w_ret w_bl))
 w_snil)
 (w_scons (w_setLc1 9 "_law_setting" 14 rfl nd (sw_true rfl rfl rfl (by decide +kernel)) (w_seq (w_v 7)) (blkOk_by (N := N_p_law) (sc := defScope s_p_law) (by decide +kernel)) (go_name (by decide)) (w_gn 14 nd) w_tsnil (w_call c_l_strewn hr h_l_strewn (by rfl) (w_cons (w_v 1) (w_cons (w_v 14) w_nil))) (fun _ _ _ _ _ => (w_gn 14 nd)) (fun _ _ _ _ _ => w_tsnil) (fun _ _ _ _ _ => (w_call c_l_strewn hr h_l_strewn (by rfl) (w_cons (w_v 1) (w_cons (w_v 14) w_nil)))))
 (w_scons (w_set 10 nd (w_repr (by rfl) (by have := hr.un; exact hu66 hr) (by rfl) m_repr (w_cons (w_v 9) w_nil)))
 (w_scons (w_set 11 nd (w_call c_p_from_settings hr h_p_from_settings (by rfl) (w_cons (w_call c_l_strewn hr h_l_strewn (by rfl) (w_cons (w_v 1) (w_cons (w_v 9) w_nil))) (w_cons (w_call c_l_strewn hr h_l_strewn (by rfl) (w_cons (w_v 1) (w_cons (w_v 2) w_nil))) w_nil))))
 (w_scons (w_ifS (w_ww (w_or (w_ne hr.units (w_repr (by rfl) (by have := hr.un; exact hu66 hr) (by rfl) m_repr (w_cons (w_v 9) w_nil)) (w_v 10)).t (w_or1 (w_nott (w_tru (w_call c_l_alike hr h_l_alike (by rfl) (w_cons (w_v 11) (w_cons (w_v 5) w_nil))))))))
 (w_sone (w_ret w_bl))
 w_snil)
 (w_scons (w_set 12 nd (w_sorted rfl (by rfl) m_sorted (w_cons (w_add (w_v 2) (w_lst (w_cons w_str w_nil))) w_nil)))
 (w_scons (w_ifS (w_nott (w_tru (w_call c_l_alike hr h_l_alike (by rfl) (w_cons (w_call c_p_count_settings hr h_p_count_settings (by rfl) (w_cons (w_v 5) (w_cons (w_call c_l_strewn hr h_l_strewn (by rfl) (w_cons (w_v 1) (w_cons (w_v 12) w_nil))) w_nil))) (w_cons (w_mul w_int (w_len (by rfl) m_len (w_cons (w_v 7) w_nil))) w_nil)))))
 (w_sone (w_ret w_bl))
 w_snil)
 (w_scons (w_set 13 nd (w_lstM w_nil))
 (w_scons (w_for PassesOwn.never rfl (w_seq (w_call c_l_settings hr h_l_settings (by rfl) (w_cons (w_v 12) w_nil))) (w_gn 14 nd)
 (w_scons (w_setLc1 15 "_law_switch" 17 rfl nd (sw_true rfl rfl rfl (by decide +kernel)) (w_seq (w_v 14)) (blkOk_by (N := N_p_law) (sc := defScope s_p_law) (by decide +kernel)) (go_name (by decide)) (w_gn 17 nd) (w_tsone (w_ne hr.units (w_v 17) w_str).t) (w_v 17) (fun _ _ _ _ _ => (w_gn 17 nd)) (fun _ _ _ _ _ => (w_tsone (w_ne hr.units (w_v 17) w_str).t)) (fun _ _ _ _ _ => (w_v 17)))
 (w_sone (w_expr (w_append (w_v 13) (w_cons (w_andV (w_notinD (units65 hr) w_str (w_v 14)).e (w_one (w_inD (units65 hr) (w_v 15) (w_v 7)).e)) w_nil))))))
 (w_frz 13 (w_sone (w_ret (w_call c_l_alike hr h_l_alike (by rfl) (w_cons (w_call c_p_from_settings hr h_p_from_settings (by rfl) (w_cons (w_v 9) (w_cons (w_call c_l_strewn hr h_l_strewn (by rfl) (w_cons (w_v 1) (w_cons (w_v 12) w_nil))) w_nil))) (w_cons (w_call c_l_form hr h_l_form (by rfl) (w_cons (w_v 12) (w_cons (w_v 13) w_nil))) w_nil))))))))))))))))))))))))))⟩
theorem bi_p_law {K : Fg} {f : Addr} {fd : FuncData} (Fd : FunD K "law" "law" (defArgs s_p_law) (defBody s_p_law) (defScope s_p_law) [] [] f fd) : Binds K fd ["_law_script"] [] := FunD.bindsN Fd fun _ _ _ _ _ _ us hl => match us, hl with | [_], _ => rfl
theorem z_p_law {P : Program} {w : World} {K : Fg} {mg : Str → Option Value} {base : Heap} (D : Dn K mg "law" s_p_law) : C8.Cal P w K mg base 0 "law" (sp3 K fun _ _ _ => False) [] := D.zero bi_p_law
theorem fok_p_law {P : Program} {w : World} {K : Fg} {mg : Str → Option Value} {base : Heap} {k : Nat} {f : Addr} {fd : FuncData} (Fd : FunD K "law" "law" (defArgs s_p_law) (defBody s_p_law) (defScope s_p_law) [] [] f fd) {k_l_hand : Nat} {S_l_hand : WF} (c_l_hand : C8.Cal P w K mg base k_l_hand "_law_hand" (sp3 K S_l_hand) []) (h_l_hand : k_l_hand ≤ k) {k_l_switch_names : Nat} {S_l_switch_names : WF} (c_l_switch_names : C8.Cal P w K mg base k_l_switch_names "_law_switch_names" (sp3 K S_l_switch_names) []) (h_l_switch_names : k_l_switch_names ≤ k) {k_l_take : Nat} {S_l_take : WF} (c_l_take : C8.Cal P w K mg base k_l_take "_law_take" (sp3 K S_l_take) []) (h_l_take : k_l_take ≤ k) {k_l_settings : Nat} {S_l_settings : WF} (c_l_settings : C8.Cal P w K mg base k_l_settings "_law_settings" (sp3 K S_l_settings) []) (h_l_settings : k_l_settings ≤ k) {k_l_bits : Nat} {S_l_bits : WF} (c_l_bits : C8.Cal P w K mg base k_l_bits "_law_bits" (sp3 K S_l_bits) []) (h_l_bits : k_l_bits ≤ k) {k_l_form : Nat} {S_l_form : WF} (c_l_form : C8.Cal P w K mg base k_l_form "_law_form" (sp3 K S_l_form) []) (h_l_form : k_l_form ≤ k) {k_p_all_settings : Nat} {S_p_all_settings : WFG} (c_p_all_settings : CalG P w K mg base k_p_all_settings "all_settings" (spG3 K S_p_all_settings)) (h_p_all_settings : k_p_all_settings + 1 ≤ k) {k_l_strewn : Nat} {S_l_strewn : WF} (c_l_strewn : C8.Cal P w K mg base k_l_strewn "_law_strewn" (sp3 K S_l_strewn) []) (h_l_strewn : k_l_strewn ≤ k) {k_l_alike : Nat} {S_l_alike : WF} (c_l_alike : C8.Cal P w K mg base k_l_alike "_law_alike" (sp3 K S_l_alike) []) (h_l_alike : k_l_alike ≤ k) {k_p_count_settings : Nat} {S_p_count_settings : WF} (c_p_count_settings : C8.Cal P w K mg base k_p_count_settings "count_settings" (sp3 K S_p_count_settings) []) (h_p_count_settings : k_p_count_settings ≤ k) {k_p_first_setting : Nat} {S_p_first_setting : WF} (c_p_first_setting : C8.Cal P w K mg base k_p_first_setting "first_setting" (sp3 K S_p_first_setting) []) (h_p_first_setting : k_p_first_setting ≤ k) {k_p_from_settings : Nat} {S_p_from_settings : WF} (c_p_from_settings : C8.Cal P w K mg base k_p_from_settings "from_settings" (sp3 K S_p_from_settings) []) (h_p_from_settings : k_p_from_settings ≤ k) (m_len : mg "len" = none) (m_tuple : mg "tuple" = none) (m_range : mg "range" = none) (m_repr : mg "repr" = none) (m_sorted : mg "sorted" = none) {s : WF} (len : ∀ us μ Q, s us μ Q → us.length = 1)
    (h : ∀ us μ Q, s us μ Q → W_p_law S_l_hand S_l_switch_names S_l_take S_l_settings S_l_bits S_l_form S_p_all_settings S_l_strewn S_l_alike S_p_count_settings S_p_first_setting S_p_from_settings (E3 μ Q) (start3 N_p_law us) μ) :
    FnG P w K mg base C8.CX0 (k + 1) f fd ["_law_script"] (sp3 K s) :=
  fn3G Fd sc_p_law len fun cdv sh H E hr =>
    let ⟨t, ht⟩ := body_p_law c_l_hand h_l_hand c_l_switch_names h_l_switch_names c_l_take h_l_take c_l_settings h_l_settings c_l_bits h_l_bits c_l_form h_l_form c_p_all_settings h_p_all_settings c_l_strewn h_l_strewn c_l_alike h_l_alike c_p_count_settings h_p_count_settings c_p_first_setting h_p_first_setting c_p_from_settings h_p_from_settings m_len m_tuple m_range m_repr m_sorted cdv f sh H E hr
    ⟨t, _, ht, h⟩
end K01

/-! set comprehensions with two places -/
namespace L3
open PySem PySem.Spec PyProof.Rows L2
section
variable {P : Program} {w : World} {A : Around} {E : Value → Shared → Prop} {s : Shared} {a : Addr} {ks : List Key}
theorem sg_call_add {k : Key} {v : Value} {Q : Value → Shared → Prop} (hk : keyIs k v = true) (R : SG w s.heap a ks) (room : ks.length + 1 < scanBound)
    (hQ : ∀ h', Heap.SameBut a s.heap h' → SG w h' a (insK ks k) → Q .none { s with heap := h', toks := s.toks + 1 }) : wpAny (model P w) A (call (.builtin "set.add") [.ref a, v]) Q E s := by
  have R0 := R
  obtain ⟨o, es, ep, t, ho, hx, hd, _⟩ := R0
  have ty : s.TypeIs (.ref a) "set" := ⟨o, ho, hx.1⟩
  refine wpAny_call_entry PySem.F.slot_set_add ty PySem.F.entry_set_add ?_ (PySem.F.args_set_add_2 _ _)
  unfold Builtin.«set.add» Builtin.Frozenset.oneOther
  simp only [List.isEmpty_nil, bind_assoc]
  unfold Builtin.Frozenset.addrOf setAdd
  refine wpAny_bind (wpAny_pure ?_)
  try dsimp only
  refine wpAny_bind (wpAny_pure ?_)
  try dsimp only
  refine wpAny_bind ?_
  refine wpAny_holding ?_
  refine wpAny_bind ((mixKind P w).pyHash (k := k) hk ?_)
  refine sg_add (s := { s with toks := s.toks + 1 }) hk R room fun h' sb r => ?_
  show wpAny _ _ (ret Value.none) _ _ _
  exact wpAny_pure ⟨_, rfl, hQ h' sb r⟩
end
theorem addX_ok {X : Cx} {pins : List (Addr × Obj)} {σ : L2.St} {H : Hp} {s : Shared} {E : Value → Shared → Prop} {D : Addr} {ks : List Key} {k : Key} {v : Value} {Q : Value → Shared → Prop} (I : Inv X pins σ H s) (hD : H D = some (SetX X.w D ks)) (room : ks.length + 1 < scanBound) (rv : RelV (kV k) v)
    (h : ∀ s', Inv X pins σ (upd H D (SetX X.w D (insK ks k))) s' → Q .none s') : wpAny (model X.prog X.w) X.A (call (.builtin "set.add") [.ref D, v]) Q E s := by
  have R := setX_get I hD
  have hk : keyIs k v = true := kV_is (P := X.prog) (w := X.w) rv
  refine sg_call_add hk R room fun h' sb new => ?_
  have he : ∃ u, h'.get? D = some u := by
    have ⟨o, _, _, _, ho, _⟩ := new
    exact ⟨o, ho⟩
  exact h _ (I.write (e := D) (t' := s.toks + 1) (by rw [hD]; trivial) (.inl rfl) (fun b u hb hu => (sb.2 b hb).trans hu) he (setX_new new))
theorem scTurn2_out (elt t0 i0 t1 i1 : Expr) (ifs0 ifs1 : List Expr) (scope : Scope) (pos : Pos) (it acc : Value) (env : Env) :
    compTurn (.SetComp elt [⟨t0, i0, ifs0, 0⟩, ⟨t1, i1, ifs1, 0⟩] scope pos) 0 it acc env = (do
      standAt i0.pos
      match ← pyNext it with
      | none => pure (.done .next)
      | some v =>
        letOwnedTupleGo t0 it v
        assign t0 env v
        let mut ok := true
        for c in ifs0 do
          if ok then ok ← isTrue c env (eval c env)
        if ok then
          let x ← eval i1 env
          standAt i1.pos
          let x ← foldedSetIterable i1 env x
          let _ ← runOwn (.compStart (.SetComp elt [⟨t0, i0, ifs0, 0⟩, ⟨t1, i1, ifs1, 0⟩] scope pos) 1 (← holding [x] (pyIter x)) acc env) env
        again (.compLoop (.SetComp elt [⟨t0, i0, ifs0, 0⟩, ⟨t1, i1, ifs1, 0⟩] scope pos) 0 it acc env)) := by rfl
theorem scTurn2_in (elt t0 i0 t1 i1 : Expr) (ifs0 ifs1 : List Expr) (scope : Scope) (pos : Pos) (it acc : Value) (env : Env) :
    compTurn (.SetComp elt [⟨t0, i0, ifs0, 0⟩, ⟨t1, i1, ifs1, 0⟩] scope pos) 1 it acc env = (do
      standAt i1.pos
      match ← pyNext it with
      | none => pure (.done .next)
      | some v =>
        letOwnedTupleGo t1 it v
        assign t1 env v
        let mut ok := true
        for c in ifs1 do
          if ok then ok ← isTrue c env (eval c env)
        if ok then
          (do let v ← eval elt env; standAt elt.pos; let _ ← call (.builtin "set.add") [acc, v])
        again (.compLoop (.SetComp elt [⟨t0, i0, ifs0, 0⟩, ⟨t1, i1, ifs1, 0⟩] scope pos) 1 it acc env)) := by rfl

section
variable {prog : Program} {w : World} {A : Around} {R : Result → Shared → Prop} {s : Shared} {elt t0 i0 t1 i1 : Expr} {ifs0 ifs1 : List Expr} {scope : Scope} {pos : Pos} {it acc : Value} {env : Env}
/-- the loop of the first clause -/
theorem scLoop2_out (hs : ∀ x, foldedSetIterable i1 env x = pure x) (I : Nat → Shared → Prop)
    (turn : ∀ n s, I n s → wpAny (model prog w) A (pyNext it) (fun r s₁ => match r with
      | none => R (.ok .next) s₁
      | some v => wpAny (model prog w) A (letOwnedTupleGo t0 it v) (fun _ s₁' => wpAny (model prog w) A (assign t0 env v) (fun _ s₂ =>
          wpAny (model prog w) A (forIn ifs0 true fun c r => if r = true then do let ok ← isTrue c env (eval c env); pure (ForInStep.yield ok) else pure (ForInStep.yield r)) (fun ok s₃ =>
            if ok = true then wpAny (model prog w) A (eval i1 env) (fun x s₄ => wpAny (model prog w) A (pyIter x) (fun it1 s₅ =>
              codeAny (model prog w) A (.compStart (.SetComp elt [⟨t0, i0, ifs0, 0⟩, ⟨t1, i1, ifs1, 0⟩] scope pos) 1 it1 acc env) (fun r s' => match r with
                | .ok _ => ∃ m, m < n ∧ I m s'
                | .error _ => False) s₅) (notedBy (model prog w) A env fun e s' => R (.error e) s') s₄) (notedBy (model prog w) A env fun e s' => R (.error e) s') s₃
            else ∃ m, m < n ∧ I m s₃) (notedBy (model prog w) A env fun e s' => R (.error e) s') s₂) (notedBy (model prog w) A env fun e s' => R (.error e) s') s₁') (notedBy (model prog w) A env fun e s' => R (.error e) s') s₁) (notedBy (model prog w) A env fun e s' => R (.error e) s') s)
    (n : Nat) (h : I n s) :
    codeAny (model prog w) A (.compLoop (.SetComp elt [⟨t0, i0, ifs0, 0⟩, ⟨t1, i1, ifs1, 0⟩] scope pos) 0 it acc env) R s := by
  refine codeAny_loop rfl I (fun n s hI => ?_) n h
  show wpAny _ A ((compTurn (.SetComp elt [⟨t0, i0, ifs0, 0⟩, ⟨t1, i1, ifs1, 0⟩] scope pos) 0 it acc env).onRaise (fun x => do noteFrame x env; theTreesLotGoes x)) _ _ s
  refine wpAny_noted ?_
  rw [scTurn2_out]
  refine wpAny_bind (wpAny_standAt (wpAny_bind (wpAny_mono (turn n s hI) (fun r s₁ h₁ => ?_) fun _ _ h' => h')))
  cases r with
  | none => exact wpAny_pure h₁
  | some v =>
    refine wpAny_bind (wpAny_mono h₁ (fun _ s₁' h₁' => ?_) fun _ _ h' => h')
    refine wpAny_bind (wpAny_mono h₁' (fun _ s₂ h₂ => wpAny_bind (wpAny_mono h₂ (fun ok s₃ h₃ => ?_) fun _ _ h' => h')) fun _ _ h' => h')
    cases ok with
    | false => exact wpAny_pure ⟨rfl, h₃⟩
    | true =>
      refine wpAny_bind (wpAny_mono h₃ (fun x s₄ h₄ => ?_) fun _ _ h' => h')
      refine wpAny_bind (wpAny_standAt (wpAny_bind (wpAny_of_eq (hs x) (wpAny_bind (wpAny_holding (wpAny_mono h₄ (fun it1 s₅ h₅ => ?_) fun _ _ h' => h'))))))
      refine wpAny_bind (wpAny_runOwn ?_)
      rw [Around.mark_none]
      refine codeAny_mono h₅ fun r s' hr => ?_
      cases r with
      | ok f =>
        first
          | exact wpAny_pure ⟨rfl, hr⟩
          | exact wpAny_bind (wpAny_pure (wpAny_pure ⟨rfl, hr⟩))
      | error e => exact hr.elim
/-- the loop of the second -/
theorem scLoop2_in (I : Nat → Shared → Prop)
    (turn : ∀ n s, I n s → wpAny (model prog w) A (pyNext it) (fun r s₁ => match r with
      | none => R (.ok .next) s₁
      | some v => wpAny (model prog w) A (letOwnedTupleGo t1 it v) (fun _ s₁' => wpAny (model prog w) A (assign t1 env v) (fun _ s₂ =>
          wpAny (model prog w) A (forIn ifs1 true fun c r => if r = true then do let ok ← isTrue c env (eval c env); pure (ForInStep.yield ok) else pure (ForInStep.yield r)) (fun ok s₃ =>
            if ok = true then wpAny (model prog w) A (eval elt env) (fun x s₄ =>
              wpAny (model prog w) A (call (.builtin "set.add") [acc, x]) (fun _ s₅ => ∃ m, m < n ∧ I m s₅) (notedBy (model prog w) A env fun e s' => R (.error e) s') s₄) (notedBy (model prog w) A env fun e s' => R (.error e) s') s₃
            else ∃ m, m < n ∧ I m s₃) (notedBy (model prog w) A env fun e s' => R (.error e) s') s₂) (notedBy (model prog w) A env fun e s' => R (.error e) s') s₁') (notedBy (model prog w) A env fun e s' => R (.error e) s') s₁) (notedBy (model prog w) A env fun e s' => R (.error e) s') s)
    (n : Nat) (h : I n s) :
    codeAny (model prog w) A (.compLoop (.SetComp elt [⟨t0, i0, ifs0, 0⟩, ⟨t1, i1, ifs1, 0⟩] scope pos) 1 it acc env) R s := by
  refine codeAny_loop rfl I (fun n s hI => ?_) n h
  show wpAny _ A ((compTurn (.SetComp elt [⟨t0, i0, ifs0, 0⟩, ⟨t1, i1, ifs1, 0⟩] scope pos) 1 it acc env).onRaise (fun x => do noteFrame x env; theTreesLotGoes x)) _ _ s
  refine wpAny_noted ?_
  rw [scTurn2_in]
  refine wpAny_bind (wpAny_standAt (wpAny_bind (wpAny_mono (turn n s hI) (fun r s₁ h₁ => ?_) fun _ _ h' => h')))
  cases r with
  | none => exact wpAny_pure h₁
  | some v =>
    refine wpAny_bind (wpAny_mono h₁ (fun _ s₁' h₁' => ?_) fun _ _ h' => h')
    refine wpAny_bind (wpAny_mono h₁' (fun _ s₂ h₂ => wpAny_bind (wpAny_mono h₂ (fun ok s₃ h₃ => ?_) fun _ _ h' => h')) fun _ _ h' => h')
    cases ok with
    | false => exact wpAny_pure ⟨rfl, h₃⟩
    | true =>
      exact wpAny_bind (wpAny_bind (wpAny_mono h₃ (fun x s₄ h₄ => wpAny_bind (wpAny_standAt (wpAny_bind (wpAny_mono h₄ (fun _ s₅ h₅ => wpAny_pure (wpAny_pure ⟨rfl, h₅⟩)) fun _ _ h' => h')))) fun _ _ h' => h'))
/-- the second clause's start -/
theorem scStart1_ok (h0 : codeAny (model prog w) A (.compLoop (.SetComp elt [⟨t0, i0, ifs0, 0⟩, ⟨t1, i1, ifs1, 0⟩] scope pos) 1 it acc env) R s)
    (h : wpAny (model prog w) A (pyIter it) (fun it' s' => codeAny (model prog w) A (.compLoop (.SetComp elt [⟨t0, i0, ifs0, 0⟩, ⟨t1, i1, ifs1, 0⟩] scope pos) 1 it' acc env) R s')
      (notedBy (model prog w) A env fun x s' => R (.error x) s') s) :
    codeAny (model prog w) A (.compStart (.SetComp elt [⟨t0, i0, ifs0, 0⟩, ⟨t1, i1, ifs1, 0⟩] scope pos) 1 it acc env) R s := by
  refine codeAny_of_tree ?_
  show wpAny _ _ ((compStart (.SetComp elt [⟨t0, i0, ifs0, 0⟩, ⟨t1, i1, ifs1, 0⟩] scope pos) 1 it acc env).onRaise (fun x => do noteFrame x env; standAt theWindowsPlace)) _ _ s
  refine wpAny_notedAt ?_
  unfold compStart
  show wpAny _ _ (ask >>= _) _ _ s
  refine wpAny_bind (wpAny_askSetting (wpAny_ite ?_))
  split
  · first
      | exact wpAny_bind (wpAny_pure (wpAny_pure (And.intro rfl h0)))
      | exact wpAny_pure (And.intro rfl h0)
  · first
      | exact wpAny_bind (wpAny_rule (wpAny_bind (wpAny_standAt (wpAny_bind (wpAny_mono h (fun it' s' h' => wpAny_pure (And.intro rfl h')) fun _ _ x => x)))))
      | (refine wpAny_bind (wpAny_rule ?_); show wpAny _ _ (standAt i1.pos >>= _) _ _ s; exact wpAny_bind (wpAny_standAt (wpAny_bind (wpAny_mono h (fun it' s' h' => wpAny_pure (And.intro rfl h')) fun _ _ x => x))))
end

section
variable {X : Cx}
/-- [elt for tg in iter if .. for tg1 in iter1 if ..]: behind the first clause's store and tests the second source's own loop, from which Nx is reached. vs: the block's names; vs1: those of the second target -/
def tSc2 (w : World) (wi : TI) (g : TG) (tt : TT) (wi1 : TI) (g1 : TG) (tt1 : TT) (te : TE) (vs vs1 : List Nat) : TE := fun σ H Q => wi σ H fun J H1 => ∀ D, H1 D = none → ∃ W : Nat → Nat → Hp → Prop, (∃ m, W 0 m (upd H1 D (SetX w D []))) ∧ ∀ i m H, W i m H →
  (J.stop i H ∧ Q (.ref D) H) ∨ (J.go i H ∧ ∃ Nx : Hp → Prop, (∀ H', Nx H' → ∃ m', m' < m ∧ W (i + 1) m' H') ∧ ∀ x H', J.yld i H x H' → g x (wipe σ vs) H' fun σ2 H2 => wipe σ2 vs = wipe σ vs ∧ tt σ2 H2 fun b H3 =>
    if b = true then wi1 σ2 H3 fun J1 H4 => ∃ W1 : Nat → Nat → Hp → Prop, (∃ m, W1 0 m H4) ∧ ∀ j k H, W1 j k H →
      (J1.stop j H ∧ Nx H) ∨ (J1.go j H ∧ ∃ Nx1 : Hp → Prop, (∀ H', Nx1 H' → ∃ k', k' < k ∧ W1 (j + 1) k' H') ∧ ∀ x H', J1.yld j H x H' → g1 x (wipe σ2 vs1) H' fun σ3 H5 => wipe σ3 vs1 = wipe σ2 vs1 ∧ tt1 σ3 H5 fun b H6 =>
        if b = true then te σ3 H6 fun y H7 => ∃ (ks : List Key) (k : Key), y = kV k ∧ H7 D = some (SetX w D ks) ∧ ks.length + 1 < scanBound ∧ Nx1 (upd H7 D (SetX w D (insK ks k))) else Nx1 H6)
    else Nx H3)
theorem sc2_core {pins : List (Addr × Obj)} {s : Shared} {σ : L2.St} {H : Hp} {Q : VK} {elt tg iter tg1 iter1 : Expr} {ifs ifs1 : List Expr} {scope : Scope} {own : List (Str × Nat)} {vs1 : List Nat} {pos pos' : Pos} {wi wi1 : TI} {g g1 : TG} {tt tt1 : TT} {te : TE} {use : Option (Value → Sem Unit)} {Qf : Value → Shared → Prop}
    (hc : X.calm = true) (hN : X.N.Nodup) (I : Inv X pins σ H s) (hi : PI X tg iter wi) (ok : BlkOk X.N X.env.scope scope own) (hv : ∀ i ∈ vs1, i ∈ own.map (·.2))
    (hg : ∀ (s : Shared) (H : Hp) (C : Addr) (cl : List (Str × Addr)) (fp : List Addr), PG (X.blk s H scope (compEnvC scope cl C X.env) fp) tg g) (ht : ∀ (s : Shared) (H : Hp) (C : Addr) (cl : List (Str × Addr)) (fp : List Addr), PTs (X.blk s H scope (compEnvC scope cl C X.env) fp) ifs tt)
    (he : ∀ (s : Shared) (H : Hp) (C : Addr) (cl : List (Str × Addr)) (fp : List Addr), PE (X.blk s H scope (compEnvC scope cl C X.env) fp) elt te) (hs : ∀ x, foldedSetIterable iter X.env x = pure x)
    (hi1 : ∀ (s : Shared) (H : Hp) (C : Addr) (cl : List (Str × Addr)) (fp : List Addr), PI (X.blk s H scope (compEnvC scope cl C X.env) fp) tg1 iter1 wi1)
    (hg1 : ∀ (s : Shared) (H : Hp) (C : Addr) (cl : List (Str × Addr)) (fp : List Addr), PG (X.blk s H scope (compEnvC scope cl C X.env) fp) tg1 g1)
    (ht1 : ∀ (s : Shared) (H : Hp) (C : Addr) (cl : List (Str × Addr)) (fp : List Addr), PTs (X.blk s H scope (compEnvC scope cl C X.env) fp) ifs1 tt1)
    (hs1 : ∀ env x, foldedSetIterable iter1 env x = pure x)
    (h : tSc2 X.w wi g tt wi1 g1 tt1 te (own.map (·.2)) vs1 σ H Q)
    (hRR : ∀ D C s' m H', Inv X pins σ H' s' → Q (.ref D) H' → s'.heap.Ns C m → FpOk X pins H' C → compPost (model X.prog X.w) X.A X.xe use Qf (.ref D) C (.ok .next) s') :
    wpAny (model X.prog X.w) X.A (comprehension (.SetComp elt [⟨tg, iter, ifs, 0⟩, ⟨tg1, iter1, ifs1, 0⟩] scope pos) scope X.env pos' (newSet (.type "set")) false (eval iter X.env) use) Qf X.xe s := by
  have hfree : ∀ y ∈ scope.names, y.2 = .free → ∃ c, X.env.cells.lookup y.1 = some c := fun y hy e => by
    rcases ok.free y hy e with k | k
    · exact I.ok.has _ (.inl k)
    · exact I.ok.has _ (.inr k)
  refine wpAny_comprehension_free (use := use) rfl hs (closure_ok hfree) ok.kind (fun y hy e => by rw [ok.uniq y hy, e])
    (thn (hi.run pins s σ H _ I h) fun xv s1 hx => thn hx fun itv s2 h2 => ?_)
  obtain ⟨it, fp, tn, J, H2, e, I2, T, st2, f2, q⟩ := h2
  subst e
  refine PpSet.newSet_ok (newEnv_comp ?_)
  generalize hD : s2.heap.objs.size = D
  have hDn : H2 D = none := I2.hok.fresh (Nat.le_of_eq hD)
  obtain ⟨W, ⟨m0, w0⟩, turn⟩ := q D hDn
  -- the new list
  generalize hs3 : ({ s2 with heap := s2.heap.push { cls := .type "set", dict := none, data := .set #[] 0 (.fresh 0 0 (!X.w.params.followText "set-order")) } } : Shared) = s3
  have I3 : Inv X pins σ (upd H2 D (SetX X.w D [])) s3 := by
    rw [← hs3]
    refine I2.laid (t' := s2.toks) (fun b o e => Heap.get?_push_of_some _ e) (Nat.le_of_eq hD) ?_
    rw [← hD]
    exact setX_new (sg_new (Heap.get?_push_size _ rfl))
  have h3 : s3.heap = s2.heap.push { cls := .type "set", dict := none, data := .set #[] 0 (.fresh 0 0 (!X.w.params.followText "set-order")) } := by rw [← hs3]
  have sz : ∀ b ∈ fp, b < s2.heap.objs.size := fun b hb => by
    obtain ⟨o, e, _⟩ := T.obj _ _ st2 b hb
    exact Heap.lt_size e
  have f3 : ∀ b ∈ fp, FpOk X pins (upd H2 D (SetX X.w D [])) b ∧ b < s3.heap.objs.size := fun b hb => by
    have hlt := sz b hb
    refine ⟨⟨?_, (f2 b hb).2⟩, by rw [h3, Heap.size_push]; exact Nat.lt_succ_of_lt hlt⟩
    rw [upd_ne (by rw [← hD]; exact Nat.ne_of_lt hlt)]
    exact (f2 b hb).1
  have st3 : tn 0 s3.heap := T.keep _ _ _ st2 fun b _ o e => by rw [h3]; exact Heap.get?_push_of_some _ e
  have I4 := block_start I3 ok hN f3
  have pg := hg s3 (upd H2 D (SetX X.w D [])) s3.heap.objs.size (cellsFrom (s3.heap.objs.size + 1) scope.names (cloFrom X.env.cells scope.names [])) fp
  have pt := ht s3 (upd H2 D (SetX X.w D [])) s3.heap.objs.size (cellsFrom (s3.heap.objs.size + 1) scope.names (cloFrom X.env.cells scope.names [])) fp
  have pe := he s3 (upd H2 D (SetX X.w D [])) s3.heap.objs.size (cellsFrom (s3.heap.objs.size + 1) scope.names (cloFrom X.env.cells scope.names [])) fp
  have pi1 := hi1 s3 (upd H2 D (SetX X.w D [])) s3.heap.objs.size (cellsFrom (s3.heap.objs.size + 1) scope.names (cloFrom X.env.cells scope.names [])) fp
  have pg1 := hg1 s3 (upd H2 D (SetX X.w D [])) s3.heap.objs.size (cellsFrom (s3.heap.objs.size + 1) scope.names (cloFrom X.env.cells scope.names [])) fp
  have pt1 := ht1 s3 (upd H2 D (SetX X.w D [])) s3.heap.objs.size (cellsFrom (s3.heap.objs.size + 1) scope.names (cloFrom X.env.cells scope.names [])) fp
  show codeAny _ _ (.compStart (.SetComp elt [⟨tg, iter, ifs, 0⟩, ⟨tg1, iter1, ifs1, 0⟩] scope pos) 0 (.ref it) (.ref D) (compEnvC scope (cellsFrom (s3.heap.objs.size + 1) scope.names (cloFrom X.env.cells scope.names [])) s3.heap.objs.size X.env)) (compPost (model X.prog X.w) X.A X.xe use Qf (.ref D) s3.heap.objs.size) { s3 with heap := pushCells (s3.heap.push { cls := .type "dict", data := .dict #[] }) scope.names }
  have nfp : ∀ b ∈ fp, (upd H2 D (SetX X.w D [])) b = none := fun b hb => (f3 b hb).1.1
  generalize hce : compEnvC scope (cellsFrom (s3.heap.objs.size + 1) scope.names (cloFrom X.env.cells scope.names [])) s3.heap.objs.size X.env = ce at I4 pg pt pe pi1 pg1 pt1 ⊢
  have cL : ce.locals = s3.heap.objs.size := by subst hce; rfl
  generalize hH3 : upd H2 D (SetX X.w D []) = H3 at I3 I4 pg pt pe pi1 pg1 pt1 w0 nfp f3
  generalize hs4 : ({ s3 with heap := pushCells (s3.heap.push { cls := .type "dict", data := .dict #[] }) scope.names } : Shared) = s4 at I4 ⊢
  have st4 : tn 0 s4.heap := T.keep _ _ _ st3 fun b _ o e => by rw [← hs4]; exact pushCells_keeps _ _ _ _ (Heap.get?_push_of_some _ e)
  have stat : ∀ {σ' : L2.St} {H' : Hp} {s' : Shared}, Inv (X.blk s3 H3 scope ce fp) [] σ' H' s' → (∀ b ∈ fp, H' b = none) → ∀ b ∈ fp, FpOk (X.blk s3 H3 scope ce fp) [] H' b := fun {σ' H' s'} I' hn b hb =>
    ⟨hn b hb, (I'.ok.exf b hb).1, I'.ok.exfs b hb, .inl hb, fun x c e => (I'.ok.exf b hb).2 x c e, fun p hp => absurd (show p ∈ ([] : List (Addr × Obj)) ++ [] from hp) (by simp)⟩
  have loop : codeAny (model X.prog X.w) X.A (.compLoop (.SetComp elt [⟨tg, iter, ifs, 0⟩, ⟨tg1, iter1, ifs1, 0⟩] scope pos) 0 (.ref it) (.ref D) ce) (compPost (model X.prog X.w) X.A X.xe use Qf (.ref D) s3.heap.objs.size) s4 := by
    refine scLoop2_out (hs1 ce) (fun n s' => ∃ i H', Inv (X.blk s3 H3 scope ce fp) [] (wipe σ (own.map (·.2))) H' s' ∧ tn i s'.heap ∧ (∀ b ∈ fp, H' b = none) ∧ W i n H') ?_ m0 ⟨0, H3, I4, st4, nfp, w0⟩
    rintro n s5 ⟨i, H5, I5, st5, n5, w5⟩
    rcases turn i n H5 w5 with ⟨stop, qq⟩ | ⟨go, Nx, hNx, step⟩
    · have td := T.done (X.blk s3 H3 scope ce fp) rfl rfl rfl hc i [] s5 _ H5 (fun _ _ => False) I5 (stat I5 n5) st5 stop
      refine thnF td fun r s6 ⟨hr, I6⟩ => ?_
      subst hr
      -- back in the def's context
      have I7 : Inv X pins σ H5 s6 := I3.call' (ch := fp) I6.os I6.base I6.hok I6.bare fun b hb => ⟨(f3 b hb).1.2.2.2.1, (f3 b hb).1.2.1, (f3 b hb).1.2.2.2.2.1, (f3 b hb).1.2.2.2.2.2⟩
      have nC : H5 s3.heap.objs.size = none := by
        have z : H5 ce.locals = none := I6.free
        rw [cL] at z
        exact z
      obtain ⟨m, hn, _⟩ := I6.loc
      have hn : s6.heap.Ns ce.locals m := hn
      rw [cL] at hn
      exact hRR D s3.heap.objs.size s6 m H5 I7 qq hn (I3.fpOk (Nat.le_refl _) nC)
    · have ti := T.item (X.blk s3 H3 scope ce fp) rfl rfl rfl hc i [] s5 _ H5 (fun _ _ => False) I5 (stat I5 n5) st5 go
      refine thnF ti fun r s6 ⟨u, hr, h6⟩ => ?_
      subst hr
      refine thnF h6 fun _ s7 ⟨x, H7, I7, r7, y7, st7, n7⟩ => ?_
      have I7' := I7.pinned (stat I7 n7) (T.obj _ _ st7)
      refine thnF (pg.run _ s7 _ H7 x u _ I7' r7 (step x H7 y7)) fun _ s8 ⟨σ8, H8, I8, hw8, q8⟩ => ?_
      refine thnF (pt.run _ s8 σ8 H8 _ I8 q8) fun b s9 ⟨H9, I9, q9⟩ => ?_
      -- the turn's end, from any slots that know what the block knew at its start
      have fin : ∀ {σ9 : L2.St} {s' : Shared} {H' : Hp}, Inv (X.blk s3 H3 scope ce fp) ([] ++ pinsAt fp s7.heap) σ9 H' s' → (wipe σ (own.map (·.2))).length = σ9.length → (∀ (j : Nat) v, (wipe σ (own.map (·.2)))[j]? = some (some v) → σ9[j]? = some (some v)) → Nx H' →
          ∃ m, m < n ∧ ∃ i H', Inv (X.blk s3 H3 scope ce fp) [] (wipe σ (own.map (·.2))) H' s' ∧ tn i s'.heap ∧ (∀ b ∈ fp, H' b = none) ∧ W i m H' := fun {σ9 s' H'} I' hl hk nx => by
        obtain ⟨m', hm, w'⟩ := hNx H' nx
        have pin' : ∀ b ∈ fp, ∀ o, s7.heap.get? b = some o → s'.heap.get? b = some o ∧ H' b = none := fun b hb o e =>
          let z := I'.pin (b, o) (List.mem_append_right _ (List.mem_append_right _ (mem_pinsAt hb e)))
          ⟨z.1, z.2.1⟩
        refine ⟨m', hm, i + 1, H', (I'.unpinned (pins := [])).weak hl hk, T.keep _ _ _ st7 fun b hb o e => (pin' b hb o e).1, fun b hb => ?_, w'⟩
        obtain ⟨o, e, _⟩ := T.obj _ _ st7 b hb
        exact (pin' b hb o e).2
      have hl8 : (wipe σ (own.map (·.2))).length = σ8.length := by rw [← hw8, wipe_length]
      have hk8 : ∀ (j : Nat) v, (wipe σ (own.map (·.2)))[j]? = some (some v) → σ8[j]? = some (some v) := fun j v e => by
        rw [← hw8] at e
        exact (wipe_some e).1
      have hk9 : ∀ (j : Nat) v, (wipe σ (own.map (·.2)))[j]? = some (some v) → (wipe σ8 vs1)[j]? = some (some v) := fun j v e => by
        rw [← hw8] at e
        obtain ⟨e1, e2⟩ := wipe_some e
        rw [wipe_out fun z => e2 (hv j z)]
        exact e1
      cases b with
      | false =>
        simp only [Bool.false_eq_true, if_false] at q9 ⊢
        exact fin I9 hl8 hk8 q9
      | true =>
        simp only [if_true] at q9 ⊢
        refine thnF (pi1.run _ s9 σ8 H9 _ I9 q9) fun xv s10 hx => thnF hx fun itv s11 h11 => ?_
        obtain ⟨it1, fp1, tn1, J1, H11, e1, I11, T1, st11, f11, W1, ⟨m1, w1⟩, turn1⟩ := h11
        subst e1
        -- the inner loop
        have stat1 : ∀ {H' : Hp}, (∀ b ∈ fp1, H' b = none) → ∀ b ∈ fp1, FpOk (X.blk s3 H3 scope ce fp) ([] ++ pinsAt fp s7.heap) H' b := fun hn b hb => ⟨hn b hb, (f11 b hb).2⟩
        have loop1 : codeAny (model X.prog X.w) X.A (.compLoop (.SetComp elt [⟨tg, iter, ifs, 0⟩, ⟨tg1, iter1, ifs1, 0⟩] scope pos) 1 (.ref it1) (.ref D) ce)
            (fun r s' => match r with
              | .ok _ => ∃ m, m < n ∧ ∃ i H', Inv (X.blk s3 H3 scope ce fp) [] (wipe σ (own.map (·.2))) H' s' ∧ tn i s'.heap ∧ (∀ b ∈ fp, H' b = none) ∧ W i m H'
              | .error _ => False) s11 := by
          refine scLoop2_in (fun k s' => ∃ j H', Inv (X.blk s3 H3 scope ce fp) ([] ++ pinsAt fp s7.heap) (wipe σ8 vs1) H' s' ∧ tn1 j s'.heap ∧ (∀ b ∈ fp1, H' b = none) ∧ W1 j k H') ?_ m1 ⟨0, H11, I11.weak (wipe_length _ _) (fun j v e => (wipe_some e).1), st11, fun b hb => (f11 b hb).1, w1⟩
          rintro k s12 ⟨j, H12, I12, st12, n12, w12⟩
          rcases turn1 j k H12 w12 with ⟨stop1, nx1⟩ | ⟨go1, Nx1, hNx1, step1⟩
          · refine thnF (T1.done (X.blk s3 H3 scope ce fp) rfl rfl rfl hc j _ s12 (wipe σ8 vs1) H12 (fun _ _ => False) I12 (stat1 n12) st12 stop1) fun r s13 ⟨hr, I13⟩ => ?_
            subst hr
            exact fin I13 (hl8.trans (wipe_length σ8 vs1).symm) hk9 nx1
          · refine thnF (T1.item (X.blk s3 H3 scope ce fp) rfl rfl rfl hc j _ s12 (wipe σ8 vs1) H12 (fun _ _ => False) I12 (stat1 n12) st12 go1) fun r s13 ⟨u1, hr, h13⟩ => ?_
            subst hr
            refine thnF h13 fun _ s14 ⟨x1, H14, I14, r14, y14, st14, n14⟩ => ?_
            have I14' := I14.pinned (stat1 n14) (T1.obj _ _ st14)
            refine thnF (pg1.run _ s14 (wipe σ8 vs1) H14 x1 u1 _ I14' r14 (step1 x1 H14 y14)) fun _ s15 ⟨σ15, H15, I15, hw15, q15⟩ => ?_
            refine thnF (pt1.run _ s15 σ15 H15 _ I15 q15) fun b1 s16 ⟨H16, I16, q16⟩ => ?_
            have fin1 : ∀ {s' : Shared} {H' : Hp}, Inv (X.blk s3 H3 scope ce fp) (([] ++ pinsAt fp s7.heap) ++ pinsAt fp1 s14.heap) σ15 H' s' → Nx1 H' → ∃ m, m < k ∧ ∃ j H', Inv (X.blk s3 H3 scope ce fp) ([] ++ pinsAt fp s7.heap) (wipe σ8 vs1) H' s' ∧ tn1 j s'.heap ∧ (∀ b ∈ fp1, H' b = none) ∧ W1 j m H' := fun {s' H'} I' nx => by
              obtain ⟨m', hm, w'⟩ := hNx1 H' nx
              have pin' : ∀ b ∈ fp1, ∀ o, s14.heap.get? b = some o → s'.heap.get? b = some o ∧ H' b = none := fun b hb o e =>
                let z := I'.pin (b, o) (List.mem_append_right _ (List.mem_append_right _ (mem_pinsAt hb e)))
                ⟨z.1, z.2.1⟩
              refine ⟨m', hm, j + 1, H', I'.unpinned.weak (by rw [← hw15, wipe_length]) (fun j v e => by rw [← hw15] at e; exact (wipe_some e).1), T1.keep _ _ _ st14 fun b hb o e => (pin' b hb o e).1, fun b hb => ?_, w'⟩
              obtain ⟨o, e, _⟩ := T1.obj _ _ st14 b hb
              exact (pin' b hb o e).2
            cases b1 with
            | false =>
              simp only [Bool.false_eq_true, if_false] at q16 ⊢
              exact fin1 I16 q16
            | true =>
              simp only [if_true] at q16 ⊢
              refine thnF (pe.run _ s16 σ15 H16 _ I16 q16) fun z s17 ⟨yv, H17, I17, r17, ks, kk, ek, hD17, hz17, nx⟩ => ?_
              subst ek
              exact addX_ok (X := X.blk s3 H3 scope ce fp) I17 hD17 hz17 r17 fun s18 I18 => fin1 I18 nx
        exact scStart1_ok loop1 (T1.self X.A 0 _ _ _ st11 loop1)
  exact PpSet.codeAny_compStart_set loop (T.self X.A 0 _ _ _ st4 loop)
/-- as a value -/
theorem pe_sc2 {elt tg iter tg1 iter1 : Expr} {ifs ifs1 : List Expr} {scope : Scope} {own : List (Str × Nat)} {vs1 : List Nat} {pos : Pos} {wi wi1 : TI} {g g1 : TG} {tt tt1 : TT} {te : TE} (hc : X.calm = true) (hN : X.N.Nodup) (hi : PI X tg iter wi) (ok : BlkOk X.N X.env.scope scope own) (hv : ∀ i ∈ vs1, i ∈ own.map (·.2))
    (hg : ∀ (s : Shared) (H : Hp) (C : Addr) (cl : List (Str × Addr)) (fp : List Addr), PG (X.blk s H scope (compEnvC scope cl C X.env) fp) tg g) (ht : ∀ (s : Shared) (H : Hp) (C : Addr) (cl : List (Str × Addr)) (fp : List Addr), PTs (X.blk s H scope (compEnvC scope cl C X.env) fp) ifs tt)
    (hi1 : ∀ (s : Shared) (H : Hp) (C : Addr) (cl : List (Str × Addr)) (fp : List Addr), PI (X.blk s H scope (compEnvC scope cl C X.env) fp) tg1 iter1 wi1)
    (hg1 : ∀ (s : Shared) (H : Hp) (C : Addr) (cl : List (Str × Addr)) (fp : List Addr), PG (X.blk s H scope (compEnvC scope cl C X.env) fp) tg1 g1) (ht1 : ∀ (s : Shared) (H : Hp) (C : Addr) (cl : List (Str × Addr)) (fp : List Addr), PTs (X.blk s H scope (compEnvC scope cl C X.env) fp) ifs1 tt1)
    (he : ∀ (s : Shared) (H : Hp) (C : Addr) (cl : List (Str × Addr)) (fp : List Addr), PE (X.blk s H scope (compEnvC scope cl C X.env) fp) elt te) (hs : ∀ x, foldedSetIterable iter X.env x = pure x := by intro _; rfl) (hs1 : ∀ env x, foldedSetIterable iter1 env x = pure x := by intro _ _; rfl) :
    PE X (.SetComp elt [⟨tg, iter, ifs, 0⟩, ⟨tg1, iter1, ifs1, 0⟩] scope pos) (tSc2 X.w wi g tt wi1 g1 tt1 te (own.map (·.2)) vs1) := by
  refine ⟨fun pins s σ H Q I h => ?_⟩
  rw [PpSet.eval_SetComp]
  refine sc2_core hc hN I hi ok hv hg ht he hs hi1 hg1 ht1 hs1 h fun D C s' m H' I' q hn f => ⟨m, hn, fun h'' sb => ?_⟩
  obtain ⟨f0, f1, f2, f3, f4, f5⟩ := f
  exact ⟨.ref D, H', I'.turned (t' := s'.toks) (fun b o hb e => (sb.2 b hb).trans e) f0 f1 f3 f4 f5, rfl, q⟩

end
end L3

/-! sorted({elt for .. in .. for .. in ..}) as a rule of the layer -/
namespace L3
open PySem PySem.Spec PyProof.Rows L2
noncomputable def scIn (g : WTg) (wt : WB) (we : L3.WX) (Al : Mu → Prop) : List U → List Key → Rho → Mu → (List Key → Mu → Prop) → Prop
  | [], ks, _, μ, P => Al μ ∧ P ks μ
  | u :: us, ks, ρ, μ, P => Al μ ∧ g u ρ μ fun ρ1 μ1 => wt ρ1 μ1 fun b μ2 => if b = true then we ρ1 μ2 fun y μ3 => ∃ k, y = kU k ∧ ks.length < 1000 ∧ scIn g wt we Al us (insK ks k) ρ μ3 P else scIn g wt we Al us ks ρ μ2 P
noncomputable def scOut (g : WTg) (wt : WB) (it1 : WIt) (vs1 : List Nat) (g1 : WTg) (wt1 : WB) (we : L3.WX) (Al : Mu → Prop) : List U → List Key → Rho → Mu → (List Key → Mu → Prop) → Prop
  | [], ks, _, μ, P => Al μ ∧ P ks μ
  | u :: us, ks, ρ, μ, P => Al μ ∧ g u ρ μ fun ρ1 μ1 => wt ρ1 μ1 fun b μ2 => if b = true then it1 ρ1 μ2 fun us1 Al1 μ3 => scIn g1 wt1 we Al1 us1 ks (wipeR ρ1 vs1) μ3 fun ks' μ4 => scOut g wt it1 vs1 g1 wt1 we Al us ks' ρ μ4 P else scOut g wt it1 vs1 g1 wt1 we Al us ks ρ μ2 P
noncomputable def wSortSc2 (it : WIt) (vs : List Nat) (g : WTg) (wt : WB) (it1 : WIt) (vs1 : List Nat) (g1 : WTg) (wt1 : WB) (we : L3.WX) : L3.WX := fun ρ μ P => it ρ μ fun us Al μ1 => scOut g wt it1 vs1 g1 wt1 we Al us [] (wipeR ρ vs) μ1 fun ks μ2 =>
  OneKind ks ∧ ks.length ≤ 1000 ∧ P (.d (.list (sortD (ks.map kd)))) μ2
section
variable {K : Fg} {w : World} {wi wi1 : TI} {wj wj1 : WIt} {g g1 : TG} {wg wg1 : WTg} {tt tt1 : TT} {wt wt1 : WB} {te : TE} {we : L3.WX} {vs vs1 : List Nat}
theorem insK_len {ks : List Key} {k : Key} : (insK ks k).length ≤ ks.length + 1 := by
  unfold insK
  split <;> simp
theorem sc2_run (hi : RI K wi wj) (hg : RG K g wg) (go : GOnly g vs) (ht : RT K tt wt) (hi1 : RI K wi1 wj1) (hg1 : RG K g1 wg1) (go1 : GOnly g1 vs1) (ht1 : RT K tt1 wt1) (he : RE K te we) {F G H : Hp} {μ : Mu} {σ : L2.St} {ρ : Rho} {P : List Key → Mu → Prop} {Q : VK} (S : Sim K F G H μ σ ρ)
    (x : wj ρ μ fun us Al μ1 => scOut wg wt wj1 vs1 wg1 wt1 we Al us [] (wipeR ρ vs) μ1 P)
    (q : ∀ (D : Addr) (ks : List Key) (G' H' : Hp) (μ' : Mu), Ext G G' → F D = none → St3 K (upd F D (SetX w D ks)) G' H' μ' → P ks μ' → Q (.ref D) H') : tSc2 w wi g tt wi1 g1 tt1 te vs vs1 σ H Q := by
  have sb : 1000 < scanBound := by unfold scanBound; omega
  refine hi F G H μ σ ρ _ _ S x fun J us Al G0 H0 μ0 e0 S0 jw p D hD => ?_
  have hFD := S0.fnone hD
  refine ⟨fun i m H => m = us.length - i ∧ i ≤ us.length ∧ ∃ G1 μ ks, Ext G0 G1 ∧ St3 K (upd F D (SetX w D ks)) G1 H μ ∧ scOut wg wt wj1 vs1 wg1 wt1 we Al (us.drop i) ks (wipeR ρ vs) μ P, ⟨us.length, by simp, Nat.zero_le _, G0, μ0, [], Ext.refl _, S0.newF hD, p⟩, ?_⟩
  rintro i m H1 ⟨rfl, hi, G1, μ1, ks, e1, S1, w1⟩
  by_cases hlt : i < us.length
  · have hd : us.drop i = us[i] :: us.drop (i + 1) := List.drop_eq_getElem_cons hlt
    rw [hd] at w1
    obtain ⟨al, w1⟩ := w1
    obtain ⟨_, hu⟩ := jw _ G1 H1 μ1 e1 S1 al i
    obtain ⟨hgo, hy⟩ := hu us[i] (List.getElem?_eq_getElem hlt)
    refine .inr ⟨hgo, fun H => ∃ G1 μ ks, Ext G0 G1 ∧ St3 K (upd F D (SetX w D ks)) G1 H μ ∧ scOut wg wt wj1 vs1 wg1 wt1 we Al (us.drop (i + 1)) ks (wipeR ρ vs) μ P, fun H' z => ⟨us.length - (i + 1), by omega, rfl, hlt, z⟩, fun x H2 yl => ?_⟩
    obtain ⟨G2, e2, S2, r2⟩ := hy x H2 yl
    have Sw : Sim K (upd F D (SetX w D ks)) G2 H2 μ1 (wipe σ vs) (wipeR ρ vs) := ⟨S2, (S.wipe vs).len, fun j u h => by
      obtain ⟨v, h1, h2⟩ := (S.wipe vs).sl j u h
      exact ⟨v, h1, h2.mono ((e0.trans e1).trans e2)⟩⟩
    have key := go x (wipe σ vs) H2 _ (hg _ G2 H2 μ1 (wipe σ vs) (wipeR ρ vs) x us[i] _ (fun σ2 H2 => tt σ2 H2 fun b H3 =>
      if b = true then wi1 σ2 H3 fun J1 H4 => ∃ W1 : Nat → Nat → Hp → Prop, (∃ m, W1 0 m H4) ∧ ∀ j k H, W1 j k H →
        (J1.stop j H ∧ (∃ G1 μ ks, Ext G0 G1 ∧ St3 K (upd F D (SetX w D ks)) G1 H μ ∧ scOut wg wt wj1 vs1 wg1 wt1 we Al (us.drop (i + 1)) ks (wipeR ρ vs) μ P)) ∨ (J1.go j H ∧ ∃ Nx1 : Hp → Prop, (∀ H', Nx1 H' → ∃ k', k' < k ∧ W1 (j + 1) k' H') ∧ ∀ x H', J1.yld j H x H' → g1 x (wipe σ2 vs1) H' fun σ3 H5 => wipe σ3 vs1 = wipe σ2 vs1 ∧ tt1 σ3 H5 fun b H6 =>
          if b = true then te σ3 H6 fun y H7 => ∃ (ks : List Key) (k : Key), y = kV k ∧ H7 D = some (SetX w D ks) ∧ ks.length + 1 < scanBound ∧ Nx1 (upd H7 D (SetX w D (insK ks k))) else Nx1 H6)
      else (∃ G1 μ ks, Ext G0 G1 ∧ St3 K (upd F D (SetX w D ks)) G1 H3 μ ∧ scOut wg wt wj1 vs1 wg1 wt1 we Al (us.drop (i + 1)) ks (wipeR ρ vs) μ P)) Sw r2 w1 fun σ3 G3 H3 ρ3 μ3 e3 S3 w3 => ?_)
    · rw [wipe_wipe] at key
      exact key
    · refine ht _ G3 H3 μ3 σ3 ρ3 _ _ S3 w3 fun b G4 H4 μ4 e4 S4 w4 => ?_
      cases b with
      | false => exact ⟨G4, μ4, ks, ((e1.trans e2).trans e3).trans e4, S4, w4⟩
      | true =>
        show wi1 σ3 H4 _
        have S4' := S3.mono e4 S4
        refine hi1 _ G4 H4 μ4 σ3 ρ3 _ _ S4' w4 fun J1 us1 Al1 G5 H5 μ5 e5 S5 jw1 p1 => ?_
        have e05 : Ext G1 G5 := ((e2.trans e3).trans e4).trans e5
        have S5' := S4'.mono e5 S5
        refine ⟨fun j k H => k = us1.length - j ∧ j ≤ us1.length ∧ ∃ G6 μ ks, Ext G5 G6 ∧ St3 K (upd F D (SetX w D ks)) G6 H μ ∧ scIn wg1 wt1 we Al1 (us1.drop j) ks (wipeR ρ3 vs1) μ fun ks' μ4 => scOut wg wt wj1 vs1 wg1 wt1 we Al (us.drop (i + 1)) ks' (wipeR ρ vs) μ4 P,
          ⟨us1.length, by simp, Nat.zero_le _, G5, μ5, ks, Ext.refl _, S5, p1⟩, ?_⟩
        rintro j k H6 ⟨rfl, hj, G6, μ6, kt, e6, S6, w6⟩
        by_cases hlt1 : j < us1.length
        · have hd1 : us1.drop j = us1[j] :: us1.drop (j + 1) := List.drop_eq_getElem_cons hlt1
          rw [hd1] at w6
          obtain ⟨al1, w6⟩ := w6
          obtain ⟨_, hu1⟩ := jw1 _ G6 H6 μ6 e6 S6 al1 j
          obtain ⟨hgo1, hy1⟩ := hu1 us1[j] (List.getElem?_eq_getElem hlt1)
          refine .inr ⟨hgo1, fun H => ∃ G6 μ ks, Ext G5 G6 ∧ St3 K (upd F D (SetX w D ks)) G6 H μ ∧ scIn wg1 wt1 we Al1 (us1.drop (j + 1)) ks (wipeR ρ3 vs1) μ fun ks' μ4 => scOut wg wt wj1 vs1 wg1 wt1 we Al (us.drop (i + 1)) ks' (wipeR ρ vs) μ4 P, fun H' z => ⟨us1.length - (j + 1), by omega, rfl, hlt1, z⟩, fun x H7 yl => ?_⟩
          obtain ⟨G7, e7, S7, r7⟩ := hy1 x H7 yl
          have Sw1 : Sim K (upd F D (SetX w D kt)) G7 H7 μ6 (wipe σ3 vs1) (wipeR ρ3 vs1) := ⟨S7, (S5'.wipe vs1).len, fun j u h => by
            obtain ⟨v, h1, h2⟩ := (S5'.wipe vs1).sl j u h
            exact ⟨v, h1, h2.mono (e6.trans e7)⟩⟩
          have key1 := go1 x (wipe σ3 vs1) H7 _ (hg1 _ G7 H7 μ6 (wipe σ3 vs1) (wipeR ρ3 vs1) x us1[j] _ (fun σ8 H8 => tt1 σ8 H8 fun b H8 =>
            if b = true then te σ8 H8 fun y H9 => ∃ (ks : List Key) (k : Key), y = kV k ∧ H9 D = some (SetX w D ks) ∧ ks.length + 1 < scanBound ∧ (∃ G6 μ ks', Ext G5 G6 ∧ St3 K (upd F D (SetX w D ks')) G6 (upd H9 D (SetX w D (insK ks k))) μ ∧ scIn wg1 wt1 we Al1 (us1.drop (j + 1)) ks' (wipeR ρ3 vs1) μ fun ks' μ4 => scOut wg wt wj1 vs1 wg1 wt1 we Al (us.drop (i + 1)) ks' (wipeR ρ vs) μ4 P)
            else (∃ G6 μ ks, Ext G5 G6 ∧ St3 K (upd F D (SetX w D ks)) G6 H8 μ ∧ scIn wg1 wt1 we Al1 (us1.drop (j + 1)) ks (wipeR ρ3 vs1) μ fun ks' μ4 => scOut wg wt wj1 vs1 wg1 wt1 we Al (us.drop (i + 1)) ks' (wipeR ρ vs) μ4 P)) Sw1 r7 w6 fun σ8 G8 H8 ρ8 μ8 e8 S8 w8 => ?_)
          · rw [wipe_wipe] at key1
            exact key1
          · refine ht1 _ G8 H8 μ8 σ8 ρ8 _ _ S8 w8 fun b G9 H9 μ9 e9 S9 w9 => ?_
            cases b with
            | false => exact ⟨G9, μ9, kt, ((e6.trans e7).trans e8).trans e9, S9, w9⟩
            | true =>
              show te σ8 H9 _
              refine he _ G9 H9 μ9 σ8 ρ8 _ _ (S8.mono e9 S9) w9 fun y u Ga Ha μa ea Sa ra ⟨kk, ek, hz, wa⟩ => ?_
              subst ek
              obtain ⟨hDa, _, _⟩ := Sa.fr D _ upd_same
              exact ⟨kt, kk, ru_key ra, hDa, by omega, Ga, μa, _, (((e6.trans e7).trans e8).trans e9).trans ea, Sa.setF, wa⟩
        · have hd1 : us1.drop j = [] := List.drop_eq_nil_of_le (by omega)
          rw [hd1] at w6
          obtain ⟨al1, w6⟩ := w6
          obtain ⟨hs1, _⟩ := jw1 _ G6 H6 μ6 e6 S6 al1 j
          exact .inl ⟨hs1 (by omega), G6, μ6, kt, (e1.trans e05).trans e6, S6, w6⟩
  · have hd : us.drop i = [] := List.drop_eq_nil_of_le (by omega)
    rw [hd] at w1
    obtain ⟨al, w1⟩ := w1
    obtain ⟨hs, _⟩ := jw _ G1 H1 μ1 e1 S1 al i
    exact .inl ⟨hs (by omega), q D ks G1 H1 μ1 (e0.trans e1) hFD S1 w1⟩
theorem re_sortSc2 {w : World} (hi : RI K wi wj) (hg : RG K g wg) (go : GOnly g vs) (ht : RT K tt wt) (hi1 : RI K wi1 wj1) (hg1 : RG K g1 wg1) (go1 : GOnly g1 vs1) (ht1 : RT K tt1 wt1) (he : RE K te we) :
    RE K (tCB (rSortX w) (tCons (tSc2 w wi g tt wi1 g1 tt1 te vs vs1) tNil)) (wSortSc2 wj vs wg wt wj1 vs1 wg1 wt1 we) := fun F G H μ σ ρ P Q S x q => by
  show tSc2 w wi g tt wi1 g1 tt1 te vs vs1 σ H fun x H1 => rSortX w [x] H1 Q
  refine sc2_run (w := w) hi hg go ht hi1 hg1 go1 ht1 he S x fun D ks G1 H1 μ1 e1 hD S1 ⟨one, hl, p⟩ => ?_
  obtain ⟨h1, _, _⟩ := S1.fr D _ upd_same
  refine ⟨D, ks, rfl, h1, one, hl, fun ys c e hc => ?_⟩
  have S2 : St3 K F G1 H1 μ1 := ⟨S1.sub, fun a o ea => S1.fr a o (by rw [upd_ne (ne_of_none ea hD)]; exact ea), S1.mu⟩
  obtain ⟨e3, S3⟩ := S2.newG (o := .lst (ys.map kV)) hc
  refine q (.ref c) (.d (.list _)) _ _ μ1 (e1.trans e3) S3 (Rp.lst (SqL.of upd_same) ?_) p
  rw [← e]
  exact keys_rps ys
end
section
variable {X : Cx} {elt tg iter tg1 iter1 : Expr} {ifs ifs1 : List Expr} {scope : Scope} {pos p1 pc : Pos} {wi wi1 : TI} {wj wj1 : WIt} {g g1 : TG} {wg wg1 : WTg} {tt tt1 : TT} {wt wt1 : WB} {te : TE} {we : L3.WX}
theorem w_sortSc2 (own : List (Str × Nat)) (vs1 : List Nat) (hc : X.calm = true) (hN : X.N.Nodup) (hu : X.A.units + 64 < cLine) (hgs : Gl X "sorted") (hm : X.mg "sorted" = none)
    (hi : WI X tg iter wi wj) (ok : BlkOk X.N X.env.scope scope own) (hv : ∀ i ∈ vs1, i ∈ own.map (·.2)) (go : GOnly g (own.map (·.2))) (go1 : GOnly g1 vs1)
    (_ : WG (X.blk X.s_0 X.H_0 scope (compEnvC scope [] 0 X.env) []) tg g wg) (_ : WTs (X.blk X.s_0 X.H_0 scope (compEnvC scope [] 0 X.env) []) ifs tt wt) (_ : WI (X.blk X.s_0 X.H_0 scope (compEnvC scope [] 0 X.env) []) tg1 iter1 wi1 wj1) (_ : WG (X.blk X.s_0 X.H_0 scope (compEnvC scope [] 0 X.env) []) tg1 g1 wg1) (_ : WTs (X.blk X.s_0 X.H_0 scope (compEnvC scope [] 0 X.env) []) ifs1 tt1 wt1) (_ : WE (X.blk X.s_0 X.H_0 scope (compEnvC scope [] 0 X.env) []) elt te we)
    (hg : ∀ (s : Shared) (H : Hp) (C : Addr) (cl : List (Str × Addr)) (fp : List Addr), WG (X.blk s H scope (compEnvC scope cl C X.env) fp) tg g wg) (ht : ∀ (s : Shared) (H : Hp) (C : Addr) (cl : List (Str × Addr)) (fp : List Addr), WTs (X.blk s H scope (compEnvC scope cl C X.env) fp) ifs tt wt)
    (hi1 : ∀ (s : Shared) (H : Hp) (C : Addr) (cl : List (Str × Addr)) (fp : List Addr), WI (X.blk s H scope (compEnvC scope cl C X.env) fp) tg1 iter1 wi1 wj1) (hg1 : ∀ (s : Shared) (H : Hp) (C : Addr) (cl : List (Str × Addr)) (fp : List Addr), WG (X.blk s H scope (compEnvC scope cl C X.env) fp) tg1 g1 wg1)
    (ht1 : ∀ (s : Shared) (H : Hp) (C : Addr) (cl : List (Str × Addr)) (fp : List Addr), WTs (X.blk s H scope (compEnvC scope cl C X.env) fp) ifs1 tt1 wt1) (he : ∀ (s : Shared) (H : Hp) (C : Addr) (cl : List (Str × Addr)) (fp : List Addr), WE (X.blk s H scope (compEnvC scope cl C X.env) fp) elt te we)
    (hs : ∀ x, foldedSetIterable iter X.env x = pure x := by intro _; rfl) (hs1 : ∀ env x, foldedSetIterable iter1 env x = pure x := by intro _ _; rfl)
    (he2 : starEach [.SetComp elt [⟨tg, iter, ifs, 0⟩, ⟨tg1, iter1, ifs1, 0⟩] scope pc] X.env = (false, eval (.SetComp elt [⟨tg, iter, ifs, 0⟩, ⟨tg1, iter1, ifs1, 0⟩] scope pc) X.env) :: starEach [] X.env := by rfl) (hpl2 : (backTo pos (starEach [] X.env)).any (·.1) = false := by rfl) :
    WE X (.Call (.Name "sorted" p1) [.SetComp elt [⟨tg, iter, ifs, 0⟩, ⟨tg1, iter1, ifs1, 0⟩] scope pc] [] pos) (tCB (rSortX X.w) (tCons (tSc2 X.w wi g tt wi1 g1 tt1 te (own.map (·.2)) vs1) tNil)) (wSortSc2 wj (own.map (·.2)) wg wt wj1 vs1 wg1 wt1 we) :=
  ⟨pe_callB (cr_sortX hc hu) hgs hm boot_sorted (pa_cons (pe_sc2 hc hN hi.pi ok hv (fun s H C cl fp => (hg s H C cl fp).pg) (fun s H C cl fp => (ht s H C cl fp).pt) (fun s H C cl fp => (hi1 s H C cl fp).pi) (fun s H C cl fp => (hg1 s H C cl fp).pg) (fun s H C cl fp => (ht1 s H C cl fp).pt) (fun s H C cl fp => (he s H C cl fp).pe) hs hs1) pa_nil he2) (by decide) (by decide) he2 hpl2,
    re_sortSc2 hi.ri (hg X.s_0 X.H_0 0 [] []).rg go (ht X.s_0 X.H_0 0 [] []).rt (hi1 X.s_0 X.H_0 0 [] []).ri (hg1 X.s_0 X.H_0 0 [] []).rg go1 (ht1 X.s_0 X.H_0 0 [] []).rt (he X.s_0 X.H_0 0 [] []).re⟩
end
end L3

/-! tables in their order: by the least setting of each condition -/
namespace Ot
open PySem PySem.Spec PyProof.Rows L2 L3 L3M Cn
def bl (xs : List Bool) : List PyData := xs.map .bool
def sl (xs : List Str) : List PyData := xs.map .str
/-- the least place of a truth -/
def fst (row : List Bool) : Nat := row.findIdx id
def nf (row : List Bool) : Bool := row.any id
theorem nf_app {a b : List Bool} : nf (a ++ b) = (nf a || nf b) := List.any_append
theorem fst_app {a b : List Bool} : fst (a ++ b) = if nf a = true then fst a else fst b + a.length := by
  unfold fst nf
  rw [List.findIdx_append]
  by_cases h : List.findIdx id a < a.length
  · rw [if_pos h, if_pos (List.any_eq_true.mpr (List.findIdx_lt_length.mp h))]
  · rw [if_neg h, if_neg fun k => h (List.findIdx_lt_length.mpr (List.any_eq_true.mp k))]
theorem nf_lk {row : List Bool} : nf row = true ↔ ∃ k, k < row.length ∧ lk row k = true := by
  unfold nf lk
  rw [List.any_eq_true]
  constructor
  · rintro ⟨x, hx, h⟩
    obtain ⟨i, hi, e⟩ := List.mem_iff_getElem.mp hx
    exact ⟨i, hi, by rw [List.getElem?_eq_getElem hi, e]; exact h⟩
  · rintro ⟨k, hk, h⟩
    rw [List.getElem?_eq_getElem hk] at h
    exact ⟨_, List.getElem_mem hk, h⟩
theorem fst_lt {row : List Bool} (h : nf row = true) : fst row < row.length := by
  unfold fst
  exact List.findIdx_lt_length.mpr (List.any_eq_true.mp h)
theorem fst_lk {row : List Bool} (h : nf row = true) : lk row (fst row) = true := by
  have l := fst_lt h
  unfold lk
  rw [List.getElem?_eq_getElem l]
  have q : id row[fst row] = true := List.findIdx_getElem (w := l)
  exact q
/-- the condition says nothing anywhere -/
theorem form_false {names : List Str} {row : List Bool} (hs : Srt names) (hl : row.length = 2 ^ names.length) : form names row = .lit false ↔ nf row = false := by
  constructor
  · intro e
    cases h : nf row with
    | false => rfl
    | true =>
      obtain ⟨k, hk, h1⟩ := nf_lk.mp h
      rw [hl] at hk
      obtain ⟨σ, e2⟩ := some_k hs hk
      have e3 := form_lk σ hl
      rw [e2, h1, e] at e3
      cases e3
  · intro h
    refine (form_uni (c := .lit false) hs hl trivial fun σ => ?_).symm
    cases e : lk row (idx (names.map σ)) with
    | false => rfl
    | true =>
      have l := idx_lt (names.map σ)
      rw [List.length_map] at l
      rw [nf_lk.mpr ⟨_, by rw [hl]; exact l, e⟩] at h
      cases h
/-- the switches that are on in the least setting -/
def ons : T → List Str
  | .lit _ => []
  | .nd s a (.lit false) => s :: ons a
  | .nd _ _ b => ons b
theorem ons_on {s : Str} {a : T} : ons (.nd s a (.lit false)) = s :: ons a := by conv => lhs; unfold ons
theorem ons_off {s : Str} {a b : T} (h : b ≠ .lit false) : ons (.nd s a b) = ons b := by
  match b, h with
  | .lit true, _ => unfold ons; rfl
  | .lit false, h => exact absurd rfl h
  | .nd _ _ _, _ => conv => lhs; unfold ons
/-- on or off, by a row of names -/
def kb (ns F : List Str) : List Bool := ns.map fun x => decide (x ∈ F)
theorem kb_len {ns F : List Str} : (kb ns F).length = ns.length := List.length_map _
theorem kb_out {ns F : List Str} {x : Str} (h : x ∉ ns) : kb ns (x :: F) = kb ns F := List.map_congr_left fun y hy => by
  have : y ≠ x := fun e => h (e ▸ hy)
  simp [this]
theorem form_inj {names : List Str} {a b : List Bool} (hs : Srt names) (ha : a.length = 2 ^ names.length) (hb : b.length = 2 ^ names.length) (e : form names a = form names b) : a = b := by
  refine List.ext_getElem (by rw [ha, hb]) fun k h1 h2 => ?_
  obtain ⟨σ, e2⟩ := some_k hs (by rw [ha] at h1; exact h1)
  have e3 := form_ev σ ha
  have e4 := form_ev σ hb
  rw [e2] at e3 e4
  rw [e, ← e4, List.getElem?_eq_getElem h1, List.getElem?_eq_getElem h2] at e3
  exact Option.some.inj e3
theorem ons_form : ∀ {names : List Str} {row : List Bool}, Srt names → row.length = 2 ^ names.length → nf row = true → (∀ x ∈ ons (form names row), x ∈ names) ∧ idx (kb names (ons (form names row))) = fst row
  | [], row, _, h, n => by
    have h : row.length = 1 := h
    match row, h with
    | [b], _ =>
      have hb : b = true := by simpa [nf] using n
      subst hb
      exact ⟨fun x hx => (nomatch hx), rfl⟩
  | x :: xs, row, hs, h, n => by
    have hs' := List.pairwise_cons.mp hs
    have hx : x ∉ xs := fun k => ltS_ne (hs'.1 x k) rfl
    have hl : row.length / 2 = 2 ^ xs.length := by rw [h, List.length_cons, Nat.pow_succ]; omega
    have h' : row.length = 2 ^ xs.length + 2 ^ xs.length := by rw [h, List.length_cons, Nat.pow_succ]; omega
    have l1 : (row.take (row.length / 2)).length = 2 ^ xs.length := by rw [List.length_take]; omega
    have l2 : (row.drop (row.length / 2)).length = 2 ^ xs.length := by rw [List.length_drop]; omega
    have ea : row = row.take (row.length / 2) ++ row.drop (row.length / 2) := (List.take_append_drop _ _).symm
    have efs : fst row = if nf (row.take (row.length / 2)) = true then fst (row.take (row.length / 2)) else fst (row.drop (row.length / 2)) + 2 ^ xs.length := by
      conv => lhs; rw [ea, fst_app, l1]
    have en : (nf (row.take (row.length / 2)) || nf (row.drop (row.length / 2))) = true := by rw [← nf_app, ← ea]; exact n
    rw [efs]
    show (∀ y ∈ ons (node x (form xs (row.drop (row.length / 2))) (form xs (row.take (row.length / 2)))), y ∈ x :: xs) ∧ idx (kb (x :: xs) (ons (node x (form xs (row.drop (row.length / 2))) (form xs (row.take (row.length / 2)))))) = _
    generalize row.take (row.length / 2) = lo at *
    generalize row.drop (row.length / 2) = hi at *
    have low : nf lo = true → (∀ y ∈ ons (form xs lo), y ∈ x :: xs) ∧ idx (kb (x :: xs) (ons (form xs lo))) = fst lo := fun k => by
      obtain ⟨g1, g2⟩ := ons_form hs'.2 l1 k
      refine ⟨fun y hy => List.mem_cons_of_mem _ (g1 y hy), ?_⟩
      have e : decide (x ∈ ons (form xs lo)) = false := decide_eq_false fun z => hx (g1 x z)
      show (if decide (x ∈ ons (form xs lo)) = true then 2 ^ (kb xs (ons (form xs lo))).length else 0) + idx (kb xs (ons (form xs lo))) = _
      rw [e, g2]
      simp
    by_cases c : form xs hi = form xs lo
    · have e := form_inj hs'.2 l2 l1 c
      subst e
      have k : nf hi = true := by simpa using en
      rw [node_eq rfl, if_pos k]
      exact low k
    · rw [node_ne c]
      by_cases k : nf lo = true
      · rw [if_pos k, ons_off fun e => by rw [form_false hs'.2 l1, k] at e; cases e]
        exact low k
      · have k' : nf lo = false := by simpa using k
        have kh : nf hi = true := by rw [k'] at en; simpa using en
        rw [if_neg k, (form_false hs'.2 l1).mpr k', ons_on]
        obtain ⟨g1, g2⟩ := ons_form hs'.2 l2 kh
        refine ⟨fun y hy => ?_, ?_⟩
        · rcases List.mem_cons.mp hy with e | hy
          · rw [e]; exact List.mem_cons_self ..
          · exact List.mem_cons_of_mem _ (g1 y hy)
        · show (if decide (x ∈ x :: ons (form xs hi)) = true then 2 ^ (kb xs (x :: ons (form xs hi))).length else 0) + idx (kb xs (x :: ons (form xs hi))) = _
          rw [decide_eq_true (List.mem_cons_self ..), kb_out hx, g2, kb_len, if_pos rfl, Nat.add_comm]
/-! ### the order of the keys -/
open PySem.W in
theorem lt_key : ∀ {names ns F G : List Str}, Srt names → ns.Sublist names → (∀ y ∈ names, y ∈ F → y ∈ ns) → (∀ y ∈ names, y ∈ G → y ∈ ns) → idx (kb names F) < idx (kb names G) → rowLt (bl (kb ns F)) (bl (kb ns G)) = true
  | [], _, F, G, _, _, _, _, h => by cases h
  | x :: xs, ns, F, G, hs, sub, hF, hG, h => by
    have hs' := List.pairwise_cons.mp hs
    have hx : x ∉ xs := fun k => ltS_ne (hs'.1 x k) rfl
    have h : (if decide (x ∈ F) = true then 2 ^ (kb xs F).length else 0) + idx (kb xs F) < (if decide (x ∈ G) = true then 2 ^ (kb xs G).length else 0) + idx (kb xs G) := h
    rw [kb_len, kb_len] at h
    cases sub with
    | cons _ sub =>
      have nx : x ∉ ns := fun k => hx (sub.subset k)
      have nF : ¬ x ∈ F := fun k => nx (hF x (List.mem_cons_self ..) k)
      have nG : ¬ x ∈ G := fun k => nx (hG x (List.mem_cons_self ..) k)
      rw [decide_eq_false nF, decide_eq_false nG] at h
      exact lt_key hs'.2 sub (fun y hy => hF y (List.mem_cons_of_mem _ hy)) (fun y hy => hG y (List.mem_cons_of_mem _ hy)) (by simpa using h)
    | cons_cons _ sub =>
      rename_i ns'
      have rest : ∀ {A : List Str}, (∀ y ∈ x :: xs, y ∈ A → y ∈ x :: ns') → ∀ y ∈ xs, y ∈ A → y ∈ ns' := fun hA y hy ya => by
        rcases List.mem_cons.mp (hA y (List.mem_cons_of_mem _ hy) ya) with e | k
        · exact absurd (e ▸ hy) hx
        · exact k
      have i1 := idx_lt (kb xs F)
      have i2 := idx_lt (kb xs G)
      rw [kb_len] at i1 i2
      show rowLt (.bool (decide (x ∈ F)) :: bl (kb ns' F)) (.bool (decide (x ∈ G)) :: bl (kb ns' G)) = true
      unfold rowLt
      rw [dataLt_cons (by simp [alike])]
      by_cases c1 : x ∈ F <;> by_cases c2 : x ∈ G
      · rw [decide_eq_true c1, decide_eq_true c2] at h ⊢
        rw [if_pos (by simp [PyData.eqv])]
        exact lt_key hs'.2 sub (rest hF) (rest hG) (by omega)
      · rw [decide_eq_true c1, decide_eq_false c2] at h
        simp only [if_true, Bool.false_eq_true, if_false] at h
        omega
      · rw [decide_eq_false c1, decide_eq_true c2]
        rw [if_neg (by simp [PyData.eqv])]
        rfl
      · rw [decide_eq_false c1, decide_eq_false c2] at h ⊢
        rw [if_pos (by simp [PyData.eqv])]
        exact lt_key hs'.2 sub (rest hF) (rest hG) (by simpa using h)
/-! ### the list in its order -/
abbrev Row := List Bool × PyData
/-- rows as data: condition and value -/
noncomputable def tb (names : List Str) (rows : List Row) : List PyData := rows.map fun r => .tuple [(form names r.1).d, r.2]
theorem tb_len {names : List Str} {rows : List Row} : (tb names rows).length = rows.length := List.length_map _
/-- what is sorted -/
noncomputable def rk (names ns : List Str) (r : Row) : PyData := .tuple [.list (bl (kb ns (ons (form names r.1)))), (form names r.1).d, r.2]
noncomputable def rle (names ns : List Str) (a b : Row) : Bool := PySem.W.dataLe false key0 (rk names ns a) (rk names ns b)
noncomputable def srt (names ns : List Str) (rows : List Row) : List Row := rows.mergeSort (rle names ns)
theorem srt_map {names ns : List Str} {rows : List Row} : sortK (rows.map (rk names ns)) = (srt names ns rows).map (rk names ns) :=
  (List.map_mergeSort (f := rk names ns) (l := rows) fun a _ b _ => rfl).symm
theorem srt_perm {names ns : List Str} {rows : List Row} : (srt names ns rows).Perm rows := List.mergeSort_perm _ _
theorem rle_trans {names ns : List Str} (a b c : Row) (h1 : rle names ns a b = true) (h2 : rle names ns b c = true) : rle names ns a c = true := le_trans' (key0 (rk names ns a)) (key0 (rk names ns b)) (key0 (rk names ns c)) h1 h2
theorem rle_total {names ns : List Str} (a b : Row) : (rle names ns a b || rle names ns b a) = true := le_total' (key0 (rk names ns a)) (key0 (rk names ns b))
structure Rs (names : List Str) (rows : List Row) : Prop where
  srt : Srt names
  ok : ∀ x ∈ names, PyData.strOk x = true
  len : ∀ r ∈ rows, r.1.length = 2 ^ names.length
def Asc (rows : List Row) : Prop := rows.Pairwise fun a b => fst a.1 ≤ fst b.1
theorem srt_asc {names ns : List Str} {rows : List Row} (R : Rs names rows) (n : ∀ r ∈ rows, nf r.1 = true) (sub : ns.Sublist names) (h : ∀ r ∈ rows, ∀ y ∈ ons (form names r.1), y ∈ ns) : Asc (srt names ns rows) := by
  have p := List.pairwise_mergeSort (le := rle names ns) rle_trans rle_total rows
  refine List.Pairwise.imp_of_mem (fun {a b} ha hb hab => ?_) p
  have ha := srt_perm.mem_iff.mp ha
  have hb := srt_perm.mem_iff.mp hb
  refine Nat.le_of_not_lt fun lt => ?_
  have ea := (ons_form R.srt (R.len a ha) (n a ha)).2
  have eb := (ons_form R.srt (R.len b hb) (n b hb)).2
  have k := lt_key (names := names) (ns := ns) (F := ons (form names b.1)) (G := ons (form names a.1)) R.srt sub (fun y _ => h b hb y) (fun y _ => h a ha y) (by rw [ea, eb]; exact lt)
  have q : rle names ns a b = !PySem.W.rowLt (bl (kb ns (ons (form names b.1)))) (bl (kb ns (ons (form names a.1)))) := by
    show (!PySem.W.dataLt (.list _) (.list _)) = _
    rw [PySem.W.dataLt_list]
    rfl
  rw [q, k] at hab
  cases hab
/-! ### rows by a list of choices -/
/-- the numbers from 0 on, as they come first -/
def seen (X : List Int) : List Int := X.foldl (fun acc c => if 0 ≤ c ∧ c ∉ acc then acc ++ [c] else acc) []
theorem seen_snoc {X : List Int} {c : Int} : seen (X ++ [c]) = if 0 ≤ c ∧ c ∉ seen X then seen X ++ [c] else seen X := by
  unfold seen
  rw [List.foldl_append]
  rfl
theorem rev_ind {α : Type} {p : List α → Prop} (h0 : p []) (h1 : ∀ l a, p l → p (l ++ [a])) (l : List α) : p l := by
  have : ∀ m : List α, p m.reverse := fun m => by
    induction m with
    | nil => exact h0
    | cons a m ih => rw [List.reverse_cons]; exact h1 _ _ ih
  rw [← List.reverse_reverse l]
  exact this _
theorem seen_mem (X : List Int) : ∀ c, c ∈ seen X ↔ c ∈ X ∧ 0 ≤ c := by
  refine rev_ind (p := fun X => ∀ c, c ∈ seen X ↔ c ∈ X ∧ 0 ≤ c) (fun c => by simp [seen]) (fun X a ih c => ?_) X
  rw [seen_snoc]
  split
  · rename_i h
    rw [List.mem_append, List.mem_append, ih, List.mem_singleton]
    constructor
    · rintro (h1 | h1)
      · exact ⟨.inl h1.1, h1.2⟩
      · exact ⟨.inr h1, h1 ▸ h.1⟩
    · rintro ⟨h1 | h1, h2⟩
      · exact .inl ⟨h1, h2⟩
      · exact .inr h1
  · rename_i h
    rw [ih, List.mem_append, List.mem_singleton]
    constructor
    · exact fun h1 => ⟨.inl h1.1, h1.2⟩
    · rintro ⟨h1 | h1, h2⟩
      · exact ⟨h1, h2⟩
      · subst h1
        have k : c ∈ seen X := Classical.byContradiction fun k => h ⟨h2, k⟩
        exact (ih c).mp k
theorem seen_nd (X : List Int) : (seen X).Nodup := by
  refine rev_ind (p := fun X => (seen X).Nodup) List.nodup_nil (fun X a ih => ?_) X
  rw [seen_snoc]
  split
  · rename_i h
    exact List.nodup_append.mpr ⟨ih, by simp, fun x hx y hy e => by rw [List.mem_singleton.mp hy] at e; exact h.2 (e ▸ hx)⟩
  · exact ih
/-- where c stands -/
def bits (X : List Int) (c : Int) : List Bool := X.map fun y => decide (y = c)
theorem bits_len {X : List Int} {c : Int} : (bits X c).length = X.length := List.length_map _
theorem bits_lk {X : List Int} {c : Int} {k : Nat} (h : k < X.length) : lk (bits X c) k = decide (X[k] = c) := by
  unfold lk bits
  rw [List.getElem?_map, List.getElem?_eq_getElem h]
  rfl
theorem bits_nf {X : List Int} {c : Int} : nf (bits X c) = true ↔ c ∈ X := by
  unfold nf bits
  simp [List.any_map]
theorem bits_fst {X : List Int} {c : Int} (h : c ∈ X) : X[fst (bits X c)]? = some c := by
  have n := bits_nf.mpr h
  have l := fst_lt n
  rw [bits_len] at l
  have e := fst_lk n
  rw [bits_lk l] at e
  rw [List.getElem?_eq_getElem l, of_decide_eq_true e]
theorem bits_app {X : List Int} {a c : Int} : bits (X ++ [a]) c = bits X c ++ [decide (a = c)] := by simp [bits]
theorem seen_asc (X : List Int) : (seen X).Pairwise fun a b => fst (bits X a) ≤ fst (bits X b) := by
  refine rev_ind (p := fun X => (seen X).Pairwise fun a b => fst (bits X a) ≤ fst (bits X b)) List.Pairwise.nil (fun X a ih => ?_) X
  have same : ∀ c ∈ seen X, fst (bits (X ++ [a]) c) = fst (bits X c) := fun c hc => by
    rw [bits_app, fst_app, if_pos (bits_nf.mpr ((seen_mem X c).mp hc).1)]
  have ih' : (seen X).Pairwise fun x y => fst (bits (X ++ [a]) x) ≤ fst (bits (X ++ [a]) y) := List.Pairwise.imp_of_mem (fun {x y} hx hy h => by rw [same x hx, same y hy]; exact h) ih
  rw [seen_snoc]
  split
  · refine List.pairwise_append.mpr ⟨ih', List.pairwise_singleton _ _, fun x hx y hy => ?_⟩
    rename_i h
    rw [List.mem_singleton.mp hy, same x hx]
    have na : nf (bits X a) = false := by
      cases k : nf (bits X a) with
      | false => rfl
      | true => exact absurd ((seen_mem X a).mpr ⟨bits_nf.mp k, h.1⟩) h.2
    have l := fst_lt (bits_nf.mpr ((seen_mem X x).mp hx).1)
    rw [bits_len] at l
    rw [bits_app, fst_app, na, if_neg Bool.false_ne_true, bits_len]
    omega
  · exact ih'
/-- the law's table -/
def lrows (X : List Int) (v : Int → PyData) : List Row := (seen X).map fun c => (bits X c, v c)
theorem lrows_asc {X : List Int} {v : Int → PyData} : Asc (lrows X v) := List.pairwise_map.mpr (seen_asc X)
theorem lrows_anti {X : List Int} {v : Int → PyData} {a b : Row} (ha : a ∈ lrows X v) (hb : b ∈ lrows X v) (h1 : fst a.1 ≤ fst b.1) (h2 : fst b.1 ≤ fst a.1) : a = b := by
  obtain ⟨c, hc, e1⟩ := List.mem_map.mp ha
  obtain ⟨d, hd, e2⟩ := List.mem_map.mp hb
  subst e1 e2
  have f1 := bits_fst ((seen_mem X c).mp hc).1
  have f2 := bits_fst ((seen_mem X d).mp hd).1
  have e : fst (bits X c) = fst (bits X d) := Nat.le_antisymm h1 h2
  rw [e, f2] at f1
  rw [Option.some.inj f1]
/-- any rows of all the numbers that count, in their order, are the law's -/
theorem lrows_uni {X codes : List Int} {v : Int → PyData} {out : List Row} (nd : codes.Nodup) (pos : ∀ c ∈ codes, 0 ≤ c) (all : ∀ x ∈ X, 0 ≤ x → x ∈ codes) (p : out.Perm ((codes.map fun c => (bits X c, v c)).filter fun r => nf r.1)) (s : Asc out) : out = lrows X v := by
  have e : (codes.map fun c => ((bits X c, v c) : Row)).filter (fun r => nf r.1) = (codes.filter fun c => nf (bits X c)).map fun c => (bits X c, v c) := by
    rw [List.filter_map]
    rfl
  have q : (codes.filter fun c => nf (bits X c)).Perm (seen X) := by
    refine (List.perm_ext_iff_of_nodup (List.Pairwise.filter _ nd) (seen_nd X)).mpr fun c => ?_
    rw [List.mem_filter, seen_mem, bits_nf]
    exact ⟨fun h => ⟨h.2, pos c h.1⟩, fun h => ⟨all c h.1 h.2, h.1⟩⟩
  have p2 : out.Perm (lrows X v) := p.trans (by rw [e]; exact q.map _)
  exact uniq_sorted (r := fun a b : Row => fst a.1 ≤ fst b.1) (fun a ha b hb h1 h2 => lrows_anti (p2.mem_iff.mp ha) hb h1 h2) s lrows_asc p2
end Ot

namespace K01
open PySem PySem.Spec PyProof.Rows L2 L3 Cn
section
variable {P : Program} {w : World} {K : Fg} {mg : Str → Option Value} {base : Heap}
def S_st : WF := fun us μ Q => ∃ a b : Int, us = [.d (.int a), .d (.int b)] ∧ 0 ≤ a ∧ a < 2147483647 ∧ 0 ≤ b ∧ b ≤ 64 ∧ ∀ z : Int, Q (.d (.int z)) μ
theorem ex_int {p : Int → Prop} {i : Int} : (∃ x, i = x ∧ p x) ↔ p i := ⟨fun ⟨_, e, h⟩ => e ▸ h, fun h => ⟨i, rfl, h⟩⟩
theorem stirred_ok (D : Dn K mg "_law_stirred" s_l_stirred) (m1 : mg "int" = none) : C8.Cal P w K mg base 1 "_law_stirred" (sp3 K S_st) [] :=
  cal_l_stirred D m1 (fun us μ Q ⟨_, _, e, _⟩ => by rw [e]; rfl) fun us μ Q ⟨a, b, e, h1, h2, h3, h4, q⟩ => by
    subst e
    simp [wSeq, wIfS, wRet, wRetN, wNext, wDrop, wAsg, wAug, wBreak, wCont, wV, wC, wB, L3.wTru, L3.wNot, wAnd, wOr, wAndV, wOrV, wNotV, L3.wIf, wNeg, wOp, wCall, wQ, wML, wNil, wCons, wTup, wLst, wLstM, wIsi, wSl, wPart, wNoPart, wMinD, wJoin, wFrz, gN, sIx, sIs, sIsN, sI, sI0, truU, tyOk, tyU, isTruth, L3.isNon, itemsU, listU, ixU, qInt, qAbs, qStr, L3.max_int, start3, L3.kk_nb, L3.kk_nt, L3.kk_ni, L3.kk_ns, L3.kk_nl, L3.kk_bb, L3.kk_bt, L3.kk_bi, L3.kk_bs, L3.kk_bl, L3.kk_ib, L3.kk_it, L3.kk_ii, L3.kk_is, L3.kk_il, L3.kk_sb, L3.kk_st, L3.kk_si, L3.kk_ss, L3.kk_sl, L3.kk_tb, L3.kk_tt, L3.kk_ti, L3.kk_ts, L3.kk_tl, L3.kk_lb, L3.kk_lt, L3.kk_li, L3.kk_ls, L3.kk_ll, L3.at_0, L3.at_1, L3.at_2, L3.at_3, L3.eqA_int, L3.eqA_str, L3.eqA_bl, L3.lt_int, L3.gt_int, L3.le_int, L3.ge_int, L3.lt_str, L3.gt_str, L3.le_str, L3.ge_str, L3.add_int, L3.add_str, L3.exd, L3.exd0, L3.exd1, L3.exd2, L3.exd3, L3.exd4, L3.min_int, L3.min_str, L3.len_str, L3.len_lst, L3.len_tup, W_l_stirred, CMul, CDivN]
    have k1 : 0 ≤ (a * 48017 + b * 8821 + 70001) % 2147483423 := Int.emod_nonneg _ (by decide)
    have k2 : (a * 48017 + b * 8821 + 70001) % 2147483423 < 2147483423 := Int.emod_lt_of_pos _ (by decide)
    and_intros
    all_goals first | exact rtE (q _) | omega
def S_take : WF := fun us μ Q => ∃ (h : Addr) (m : Int), us = [.r h, .d (.int m)] ∧ μ h = some .hand ∧ 1 ≤ m ∧ m < 1000000 ∧ ∀ z : Int, 0 ≤ z → z < m → Q (.d (.int z)) μ
theorem take_ok (D : Dn K mg "_law_take" s_l_take) (D1 : Dn K mg "_law_stirred" s_l_stirred) (m1 : mg "int" = none) (m2 : mg "len" = none) : C8.Cal P w K mg base 2 "_law_take" (sp3 K S_take) [] := by
  refine cal_l_take D (c_l_stirred := stirred_ok D1 m1) (h_l_stirred := Nat.le_refl _) (m_len := m2) (m_int := m1) (len := fun us μ Q ⟨_, _, e, _⟩ => by rw [e]; rfl) (h := fun us μ Q ⟨h, m, e, hh, h1, h2, q⟩ => ?_)
  · subst e
    have mm : ∀ z : Int, 0 ≤ z % m ∧ z % m < m := fun z => ⟨Int.emod_nonneg _ (by omega), Int.emod_lt_of_pos _ (by omega)⟩
    have fin : ∀ (z j r t : Int) (ns : List Int), ns.length ≤ 63 → (∀ x ∈ ns, 0 ≤ x) → 0 ≤ j → j ≤ 63 → 0 ≤ r → (E3 μ Q).rt (.d (.int (z % m))) (put μ h (.lst [.d (.list (ns.map .int)), .d (.int j), .d (.int r), .d (.int t)])) := fun z j r t ns l1 l2 l3 l4 l5 =>
      rtH put_same l1 l2 l3 l4 l5 (rtE (by rw [put_put, put_id hh]; exact q _ (mm z).1 (mm z).2))
    have dr : ∀ (j r t : Int) (ns : List Int), ns.length ≤ 63 → (∀ x ∈ ns, 0 ≤ x) → 0 ≤ j → j ≤ 63 → 0 ≤ r → S_st [.d (.int ((t + 1) % 2147483477)), .d (.int j)] (put μ h (.lst [.d (.list (ns.map .int)), .d (.int j), .d (.int r), .d (.int ((t + 1) % 2147483477))])) fun x μ1 => ∃ i, x = .d (.int i) ∧ (E3 μ Q).rt (.d (.int (i % m))) μ1 := fun j r t ns l1 l2 l3 l4 l5 => by
      have k1 : 0 ≤ (t + 1) % 2147483477 := Int.emod_nonneg _ (by decide)
      have k2 : (t + 1) % 2147483477 < 2147483477 := Int.emod_lt_of_pos _ (by decide)
      exact ⟨_, _, rfl, k1, by omega, l3, by omega, fun z => ⟨z, rfl, fin z j r _ ns l1 l2 l3 l4 l5⟩⟩
    have i1 : ixN 4 1 = some 1 := rfl
    have i2 : ixN 4 2 = some 2 := rfl
    have i3 : ixN 4 3 = some 3 := rfl
    have m0 : ¬ m = 0 := by omega
    have m3 : m.natAbs < 1073741824 := by omega
    have m4 : 0 < m := by omega
    refine ⟨h, rfl, hh, fun ns j r t l1 l2 l3 l4 l5 => ?_⟩
    have fd : 0 ≤ r.fdiv m := by rw [Int.fdiv_eq_ediv_of_nonneg _ (by omega)]; exact Int.ediv_nonneg l5 (by omega)
    by_cases hr : r = 0
    · subst hr
      by_cases hj : j < ns.length
      · obtain ⟨n, rfl⟩ := Int.eq_ofNat_of_zero_le l3
        have hn : n < ns.length := by omega
        have hx : atI (List.map (U.d ∘ PyData.int) ns) (n : Int) = some (.d (.int ns[n])) := by
          rw [L3.at_n (by rw [List.length_map]; exact hn), List.getElem_map]
          rfl
        have x0 := l2 _ (List.getElem_mem hn)
        generalize ns[n] = x at hx x0
        by_cases hc : x < 1000000000000000000
        · simp [wSeq, wIfS, wRet, wRetN, wNext, wDrop, wAsg, wAug, wBreak, wCont, wV, wC, wB, L3.wTru, L3.wNot, wAnd, wOr, wAndV, wOrV, wNotV, L3.wIf, wNeg, wOp, wCall, wQ, wML, wNil, wCons, wTup, wLst, wLstM, wIsi, wSl, wPart, wNoPart, wMinD, wJoin, wFrz, gN, sIx, sIs, sIsN, sI, sI0, truU, tyOk, tyU, isTruth, L3.isNon, itemsU, listU, ixU, qInt, qAbs, qStr, L3.max_int, start3, L3.kk_nb, L3.kk_nt, L3.kk_ni, L3.kk_ns, L3.kk_nl, L3.kk_bb, L3.kk_bt, L3.kk_bi, L3.kk_bs, L3.kk_bl, L3.kk_ib, L3.kk_it, L3.kk_ii, L3.kk_is, L3.kk_il, L3.kk_sb, L3.kk_st, L3.kk_si, L3.kk_ss, L3.kk_sl, L3.kk_tb, L3.kk_tt, L3.kk_ti, L3.kk_ts, L3.kk_tl, L3.kk_lb, L3.kk_lt, L3.kk_li, L3.kk_ls, L3.kk_ll, L3.at_0, L3.at_1, L3.at_2, L3.at_3, L3.eqA_int, L3.eqA_str, L3.eqA_bl, L3.lt_int, L3.gt_int, L3.le_int, L3.ge_int, L3.lt_str, L3.gt_str, L3.le_str, L3.ge_str, L3.add_int, L3.add_str, L3.exd, L3.exd0, L3.exd1, L3.exd2, L3.exd3, L3.exd4, L3.min_int, L3.min_str, L3.len_str, L3.len_lst, L3.len_tup, W_l_take, gIx, put_same, put_put, CPow, CDivN, hx, i1, i2, i3, hj, hc, m0, m3, m4]
          have k1 : 0 ≤ x % 2147483423 := Int.emod_nonneg _ (by decide)
          have k2 : x % 2147483423 < 2147483423 := Int.emod_lt_of_pos _ (by decide)
          exact ⟨_, _, rfl, k1, by omega, by omega, by omega, fun z => ⟨z, rfl, fin z (n + 1) 0 t ns l1 l2 (by omega) (by omega) (by omega)⟩⟩
        · have hx0 : 0 < x := by omega
          have fx : 0 ≤ x.fdiv m := by rw [Int.fdiv_eq_ediv_of_nonneg _ (by omega)]; exact Int.ediv_nonneg x0 (by omega)
          simp [wSeq, wIfS, wRet, wRetN, wNext, wDrop, wAsg, wAug, wBreak, wCont, wV, wC, wB, L3.wTru, L3.wNot, wAnd, wOr, wAndV, wOrV, wNotV, L3.wIf, wNeg, wOp, wCall, wQ, wML, wNil, wCons, wTup, wLst, wLstM, wIsi, wSl, wPart, wNoPart, wMinD, wJoin, wFrz, gN, sIx, sIs, sIsN, sI, sI0, truU, tyOk, tyU, isTruth, L3.isNon, itemsU, listU, ixU, qInt, qAbs, qStr, L3.max_int, start3, L3.kk_nb, L3.kk_nt, L3.kk_ni, L3.kk_ns, L3.kk_nl, L3.kk_bb, L3.kk_bt, L3.kk_bi, L3.kk_bs, L3.kk_bl, L3.kk_ib, L3.kk_it, L3.kk_ii, L3.kk_is, L3.kk_il, L3.kk_sb, L3.kk_st, L3.kk_si, L3.kk_ss, L3.kk_sl, L3.kk_tb, L3.kk_tt, L3.kk_ti, L3.kk_ts, L3.kk_tl, L3.kk_lb, L3.kk_lt, L3.kk_li, L3.kk_ls, L3.kk_ll, L3.at_0, L3.at_1, L3.at_2, L3.at_3, L3.eqA_int, L3.eqA_str, L3.eqA_bl, L3.lt_int, L3.gt_int, L3.le_int, L3.ge_int, L3.lt_str, L3.gt_str, L3.le_str, L3.ge_str, L3.add_int, L3.add_str, L3.exd, L3.exd0, L3.exd1, L3.exd2, L3.exd3, L3.exd4, L3.min_int, L3.min_str, L3.len_str, L3.len_lst, L3.len_tup, W_l_take, gIx, put_same, put_put, CPow, CDivN, hx, i1, i2, i3, hj, hc, m0, m3, m4, hx0]
          exact fin x (n + 1) _ t ns l1 l2 (by omega) (by omega) fx
      · simp [wSeq, wIfS, wRet, wRetN, wNext, wDrop, wAsg, wAug, wBreak, wCont, wV, wC, wB, L3.wTru, L3.wNot, wAnd, wOr, wAndV, wOrV, wNotV, L3.wIf, wNeg, wOp, wCall, wQ, wML, wNil, wCons, wTup, wLst, wLstM, wIsi, wSl, wPart, wNoPart, wMinD, wJoin, wFrz, gN, sIx, sIs, sIsN, sI, sI0, truU, tyOk, tyU, isTruth, L3.isNon, itemsU, listU, ixU, qInt, qAbs, qStr, L3.max_int, start3, L3.kk_nb, L3.kk_nt, L3.kk_ni, L3.kk_ns, L3.kk_nl, L3.kk_bb, L3.kk_bt, L3.kk_bi, L3.kk_bs, L3.kk_bl, L3.kk_ib, L3.kk_it, L3.kk_ii, L3.kk_is, L3.kk_il, L3.kk_sb, L3.kk_st, L3.kk_si, L3.kk_ss, L3.kk_sl, L3.kk_tb, L3.kk_tt, L3.kk_ti, L3.kk_ts, L3.kk_tl, L3.kk_lb, L3.kk_lt, L3.kk_li, L3.kk_ls, L3.kk_ll, L3.at_0, L3.at_1, L3.at_2, L3.at_3, L3.eqA_int, L3.eqA_str, L3.eqA_bl, L3.lt_int, L3.gt_int, L3.le_int, L3.ge_int, L3.lt_str, L3.gt_str, L3.le_str, L3.ge_str, L3.add_int, L3.add_str, L3.exd, L3.exd0, L3.exd1, L3.exd2, L3.exd3, L3.exd4, L3.min_int, L3.min_str, L3.len_str, L3.len_lst, L3.len_tup, W_l_take, gIx, put_same, put_put, CPow, CDivN, i1, i2, i3, hj, m0, m3, m4]
        exact dr j 0 t ns l1 l2 l3 l4 l5
    · have hr' : 0 < r := by omega
      simp [wSeq, wIfS, wRet, wRetN, wNext, wDrop, wAsg, wAug, wBreak, wCont, wV, wC, wB, L3.wTru, L3.wNot, wAnd, wOr, wAndV, wOrV, wNotV, L3.wIf, wNeg, wOp, wCall, wQ, wML, wNil, wCons, wTup, wLst, wLstM, wIsi, wSl, wPart, wNoPart, wMinD, wJoin, wFrz, gN, sIx, sIs, sIsN, sI, sI0, truU, tyOk, tyU, isTruth, L3.isNon, itemsU, listU, ixU, qInt, qAbs, qStr, L3.max_int, start3, L3.kk_nb, L3.kk_nt, L3.kk_ni, L3.kk_ns, L3.kk_nl, L3.kk_bb, L3.kk_bt, L3.kk_bi, L3.kk_bs, L3.kk_bl, L3.kk_ib, L3.kk_it, L3.kk_ii, L3.kk_is, L3.kk_il, L3.kk_sb, L3.kk_st, L3.kk_si, L3.kk_ss, L3.kk_sl, L3.kk_tb, L3.kk_tt, L3.kk_ti, L3.kk_ts, L3.kk_tl, L3.kk_lb, L3.kk_lt, L3.kk_li, L3.kk_ls, L3.kk_ll, L3.at_0, L3.at_1, L3.at_2, L3.at_3, L3.eqA_int, L3.eqA_str, L3.eqA_bl, L3.lt_int, L3.gt_int, L3.le_int, L3.ge_int, L3.lt_str, L3.gt_str, L3.le_str, L3.ge_str, L3.add_int, L3.add_str, L3.exd, L3.exd0, L3.exd1, L3.exd2, L3.exd3, L3.exd4, L3.min_int, L3.min_str, L3.len_str, L3.len_lst, L3.len_tup, W_l_take, gIx, put_same, put_put, CPow, CDivN, i1, i2, i3, hr, hr', m0, m3, m4]
      exact fin r j _ t ns l1 l2 l3 l4 fd
mutual
def gd : PyData → Prop
  | .none | .bool _ | .int _ | .str _ => True
  | .tuple xs => xs.length ≤ 1000 ∧ gds xs
  | .list _ | .dict _ => False
def gds : List PyData → Prop
  | [] => True
  | x :: xs => gd x ∧ gds xs
end
theorem gds_at : ∀ {xs : List PyData} {j : Nat} (h : j < xs.length), gds xs → gd xs[j]
  | x :: xs, 0, _, g => by unfold gds at g; exact g.1
  | x :: xs, j + 1, h, g => by unfold gds at g; exact gds_at (xs := xs) (by simpa using h) g.2
theorem dep_at : ∀ {xs : List PyData} {j : Nat} (h : j < xs.length), xs[j].depth ≤ PyData.depthAll xs
  | x :: xs, 0, _ => by unfold PyData.depthAll; exact Nat.le_max_left _ _
  | x :: xs, j + 1, h => by
    unfold PyData.depthAll
    exact Nat.le_trans (dep_at (j := j) (by simpa using h)) (Nat.le_max_right _ _)
def S_al (n : Nat) : WF := fun us μ Q => ∃ d : PyData, us = [.d d, .d d] ∧ gd d ∧ d.depth ≤ n ∧ Q (.d (.bool true)) μ
def S_wh : WF := fun us μ Q => ∃ i : Int, us = [.d (.int i)] ∧ Q (.d (.bool true)) μ
theorem whole_ok (D : Dn K mg "_law_whole" s_l_whole) (m0 : mg "isinstance" = none) (m1 : mg "int" = none) (m2 : mg "bool" = none) : C8.Cal P w K mg base 1 "_law_whole" (sp3 K S_wh) [] :=
  cal_l_whole D (m_isinstance := m0) (m_int := m1) (m_bool := m2) (len := fun us μ Q ⟨_, e, _⟩ => by rw [e]; rfl) (h := fun us μ Q ⟨i, e, q⟩ => by
    subst e
    simp [wSeq, wIfS, wRet, wRetN, wNext, wDrop, wAsg, wAug, wBreak, wCont, wV, wC, wB, L3.wTru, L3.wNot, wAnd, wOr, wAndV, wOrV, wNotV, L3.wIf, wNeg, wOp, wCall, wQ, wML, wNil, wCons, wTup, wLst, wLstM, wIsi, wSl, wPart, wNoPart, wMinD, wJoin, wFrz, gN, sIx, sIs, sIsN, sI, sI0, truU, tyOk, tyU, isTruth, L3.isNon, itemsU, listU, ixU, qInt, qAbs, qStr, L3.max_int, start3, L3.kk_nb, L3.kk_nt, L3.kk_ni, L3.kk_ns, L3.kk_nl, L3.kk_bb, L3.kk_bt, L3.kk_bi, L3.kk_bs, L3.kk_bl, L3.kk_ib, L3.kk_it, L3.kk_ii, L3.kk_is, L3.kk_il, L3.kk_sb, L3.kk_st, L3.kk_si, L3.kk_ss, L3.kk_sl, L3.kk_tb, L3.kk_tt, L3.kk_ti, L3.kk_ts, L3.kk_tl, L3.kk_lb, L3.kk_lt, L3.kk_li, L3.kk_ls, L3.kk_ll, L3.at_0, L3.at_1, L3.at_2, L3.at_3, L3.eqA_int, L3.eqA_str, L3.eqA_bl, L3.lt_int, L3.gt_int, L3.le_int, L3.ge_int, L3.lt_str, L3.gt_str, L3.le_str, L3.ge_str, L3.add_int, L3.add_str, L3.exd, L3.exd0, L3.exd1, L3.exd2, L3.exd3, L3.exd4, L3.min_int, L3.min_str, L3.len_str, L3.len_lst, L3.len_tup, W_l_whole]
    exact rtE q)
theorem alike_ok (D : Dn K mg "_law_alike" s_l_alike) (D1 : Dn K mg "_law_whole" s_l_whole) (m0 : mg "isinstance" = none) (m1 : mg "int" = none) (m2 : mg "bool" = none) (m3 : mg "tuple" = none) (m4 : mg "len" = none) (m5 : mg "range" = none) (m6 : mg "str" = none) : ∀ n, C8.Cal P w K mg base (n + 2) "_law_alike" (sp3 K (S_al n)) [] := by
  have go : ∀ n, (∃ k, k ≤ n + 1 ∧ ∃ s, C8.Cal P w K mg base k "_law_alike" (sp3 K s) [] ∧ (n ≠ 0 → s = S_al (n - 1))) → C8.Cal P w K mg base (n + 2) "_law_alike" (sp3 K (S_al n)) [] := fun n ⟨k, hk, s, c, hs⟩ =>
    cal_l_alike D (c_l_alike := c) (h_l_alike := hk) (c_l_whole := whole_ok D1 m0 m1 m2) (h_l_whole := by omega) (m_isinstance := m0) (m_int := m1) (m_bool := m2) (m_tuple := m3) (m_len := m4) (m_range := m5) (m_str := m6) (len := fun us μ Q ⟨_, e, _⟩ => by rw [e]; rfl) (h := fun us μ Q ⟨d, e, g, dn, q⟩ => by
      subst e
      cases d with
      | none => simp [wSeq, wIfS, wRet, wRetN, wNext, wDrop, wAsg, wAug, wBreak, wCont, wV, wC, wB, L3.wTru, L3.wNot, wAnd, wOr, wAndV, wOrV, wNotV, L3.wIf, wNeg, wOp, wCall, wQ, wML, wNil, wCons, wTup, wLst, wLstM, wIsi, wSl, wPart, wNoPart, wMinD, wJoin, wFrz, gN, sIx, sIs, sIsN, sI, sI0, truU, tyOk, tyU, isTruth, L3.isNon, itemsU, listU, ixU, qInt, qAbs, qStr, L3.max_int, start3, L3.kk_nb, L3.kk_nt, L3.kk_ni, L3.kk_ns, L3.kk_nl, L3.kk_bb, L3.kk_bt, L3.kk_bi, L3.kk_bs, L3.kk_bl, L3.kk_ib, L3.kk_it, L3.kk_ii, L3.kk_is, L3.kk_il, L3.kk_sb, L3.kk_st, L3.kk_si, L3.kk_ss, L3.kk_sl, L3.kk_tb, L3.kk_tt, L3.kk_ti, L3.kk_ts, L3.kk_tl, L3.kk_lb, L3.kk_lt, L3.kk_li, L3.kk_ls, L3.kk_ll, L3.at_0, L3.at_1, L3.at_2, L3.at_3, L3.eqA_int, L3.eqA_str, L3.eqA_bl, L3.lt_int, L3.gt_int, L3.le_int, L3.ge_int, L3.lt_str, L3.gt_str, L3.le_str, L3.ge_str, L3.add_int, L3.add_str, L3.exd, L3.exd0, L3.exd1, L3.exd2, L3.exd3, L3.exd4, L3.min_int, L3.min_str, L3.len_str, L3.len_lst, L3.len_tup, W_l_alike]; exact rtE q
      | bool b => simp [wSeq, wIfS, wRet, wRetN, wNext, wDrop, wAsg, wAug, wBreak, wCont, wV, wC, wB, L3.wTru, L3.wNot, wAnd, wOr, wAndV, wOrV, wNotV, L3.wIf, wNeg, wOp, wCall, wQ, wML, wNil, wCons, wTup, wLst, wLstM, wIsi, wSl, wPart, wNoPart, wMinD, wJoin, wFrz, gN, sIx, sIs, sIsN, sI, sI0, truU, tyOk, tyU, isTruth, L3.isNon, itemsU, listU, ixU, qInt, qAbs, qStr, L3.max_int, start3, L3.kk_nb, L3.kk_nt, L3.kk_ni, L3.kk_ns, L3.kk_nl, L3.kk_bb, L3.kk_bt, L3.kk_bi, L3.kk_bs, L3.kk_bl, L3.kk_ib, L3.kk_it, L3.kk_ii, L3.kk_is, L3.kk_il, L3.kk_sb, L3.kk_st, L3.kk_si, L3.kk_ss, L3.kk_sl, L3.kk_tb, L3.kk_tt, L3.kk_ti, L3.kk_ts, L3.kk_tl, L3.kk_lb, L3.kk_lt, L3.kk_li, L3.kk_ls, L3.kk_ll, L3.at_0, L3.at_1, L3.at_2, L3.at_3, L3.eqA_int, L3.eqA_str, L3.eqA_bl, L3.lt_int, L3.gt_int, L3.le_int, L3.ge_int, L3.lt_str, L3.gt_str, L3.le_str, L3.ge_str, L3.add_int, L3.add_str, L3.exd, L3.exd0, L3.exd1, L3.exd2, L3.exd3, L3.exd4, L3.min_int, L3.min_str, L3.len_str, L3.len_lst, L3.len_tup, W_l_alike]; exact rtE q
      | int i =>
        simp [wSeq, wIfS, wRet, wRetN, wNext, wDrop, wAsg, wAug, wBreak, wCont, wV, wC, wB, L3.wTru, L3.wNot, wAnd, wOr, wAndV, wOrV, wNotV, L3.wIf, wNeg, wOp, wCall, wQ, wML, wNil, wCons, wTup, wLst, wLstM, wIsi, wSl, wPart, wNoPart, wMinD, wJoin, wFrz, gN, sIx, sIs, sIsN, sI, sI0, truU, tyOk, tyU, isTruth, L3.isNon, itemsU, listU, ixU, qInt, qAbs, qStr, L3.max_int, start3, L3.kk_nb, L3.kk_nt, L3.kk_ni, L3.kk_ns, L3.kk_nl, L3.kk_bb, L3.kk_bt, L3.kk_bi, L3.kk_bs, L3.kk_bl, L3.kk_ib, L3.kk_it, L3.kk_ii, L3.kk_is, L3.kk_il, L3.kk_sb, L3.kk_st, L3.kk_si, L3.kk_ss, L3.kk_sl, L3.kk_tb, L3.kk_tt, L3.kk_ti, L3.kk_ts, L3.kk_tl, L3.kk_lb, L3.kk_lt, L3.kk_li, L3.kk_ls, L3.kk_ll, L3.at_0, L3.at_1, L3.at_2, L3.at_3, L3.eqA_int, L3.eqA_str, L3.eqA_bl, L3.lt_int, L3.gt_int, L3.le_int, L3.ge_int, L3.lt_str, L3.gt_str, L3.le_str, L3.ge_str, L3.add_int, L3.add_str, L3.exd, L3.exd0, L3.exd1, L3.exd2, L3.exd3, L3.exd4, L3.min_int, L3.min_str, L3.len_str, L3.len_lst, L3.len_tup, W_l_alike]
        exact ⟨i, rfl, by simp; exact rtE q⟩
      | str i => simp [wSeq, wIfS, wRet, wRetN, wNext, wDrop, wAsg, wAug, wBreak, wCont, wV, wC, wB, L3.wTru, L3.wNot, wAnd, wOr, wAndV, wOrV, wNotV, L3.wIf, wNeg, wOp, wCall, wQ, wML, wNil, wCons, wTup, wLst, wLstM, wIsi, wSl, wPart, wNoPart, wMinD, wJoin, wFrz, gN, sIx, sIs, sIsN, sI, sI0, truU, tyOk, tyU, isTruth, L3.isNon, itemsU, listU, ixU, qInt, qAbs, qStr, L3.max_int, start3, L3.kk_nb, L3.kk_nt, L3.kk_ni, L3.kk_ns, L3.kk_nl, L3.kk_bb, L3.kk_bt, L3.kk_bi, L3.kk_bs, L3.kk_bl, L3.kk_ib, L3.kk_it, L3.kk_ii, L3.kk_is, L3.kk_il, L3.kk_sb, L3.kk_st, L3.kk_si, L3.kk_ss, L3.kk_sl, L3.kk_tb, L3.kk_tt, L3.kk_ti, L3.kk_ts, L3.kk_tl, L3.kk_lb, L3.kk_lt, L3.kk_li, L3.kk_ls, L3.kk_ll, L3.at_0, L3.at_1, L3.at_2, L3.at_3, L3.eqA_int, L3.eqA_str, L3.eqA_bl, L3.lt_int, L3.gt_int, L3.le_int, L3.ge_int, L3.lt_str, L3.gt_str, L3.le_str, L3.ge_str, L3.add_int, L3.add_str, L3.exd, L3.exd0, L3.exd1, L3.exd2, L3.exd3, L3.exd4, L3.min_int, L3.min_str, L3.len_str, L3.len_lst, L3.len_tup, W_l_alike]; exact rtE q
      | list l => unfold gd at g; exact g.elim
      | dict l => unfold gd at g; exact g.elim
      | tuple xs =>
        simp [wSeq, wIfS, wRet, wRetN, wNext, wDrop, wAsg, wAug, wBreak, wCont, wV, wC, wB, L3.wTru, L3.wNot, wAnd, wOr, wAndV, wOrV, wNotV, L3.wIf, wNeg, wOp, wCall, wQ, wML, wNil, wCons, wTup, wLst, wLstM, wIsi, wSl, wPart, wNoPart, wMinD, wJoin, wFrz, gN, sIx, sIs, sIsN, sI, sI0, truU, tyOk, tyU, isTruth, L3.isNon, itemsU, listU, ixU, qInt, qAbs, qStr, L3.max_int, start3, L3.kk_nb, L3.kk_nt, L3.kk_ni, L3.kk_ns, L3.kk_nl, L3.kk_bb, L3.kk_bt, L3.kk_bi, L3.kk_bs, L3.kk_bl, L3.kk_ib, L3.kk_it, L3.kk_ii, L3.kk_is, L3.kk_il, L3.kk_sb, L3.kk_st, L3.kk_si, L3.kk_ss, L3.kk_sl, L3.kk_tb, L3.kk_tt, L3.kk_ti, L3.kk_ts, L3.kk_tl, L3.kk_lb, L3.kk_lt, L3.kk_li, L3.kk_ls, L3.kk_ll, L3.at_0, L3.at_1, L3.at_2, L3.at_3, L3.eqA_int, L3.eqA_str, L3.eqA_bl, L3.lt_int, L3.gt_int, L3.le_int, L3.ge_int, L3.lt_str, L3.gt_str, L3.le_str, L3.ge_str, L3.add_int, L3.add_str, L3.exd, L3.exd0, L3.exd1, L3.exd2, L3.exd3, L3.exd4, L3.min_int, L3.min_str, L3.len_str, L3.len_lst, L3.len_tup, W_l_alike, wLc, jRng1]
        unfold gd at g
        refine ⟨by omega, lcGo_inv (fun _ acc μ' => acc = [] ∧ μ' = μ) ⟨rfl, rfl⟩ (fun _ _ _ _ => trivial) (fun j hj acc μ' N ⟨h1, h2⟩ hN => ?_) (fun acc μ' ⟨h1, h2⟩ => ?_)⟩
        · subst h1 h2
          have hj : j < xs.length := by simpa using hj
          have dn : PyData.depthAll xs + 1 ≤ n := dn
          have e := hs (by omega)
          subst e
          have hx : atI (xs.map U.d) (j : Int) = some (.d xs[j]) := by
            rw [L3.at_n (by rw [List.length_map]; exact hj), List.getElem_map]
          have dd := dep_at hj
          simp [wSeq, wIfS, wRet, wRetN, wNext, wDrop, wAsg, wAug, wBreak, wCont, wV, wC, wB, L3.wTru, L3.wNot, wAnd, wOr, wAndV, wOrV, wNotV, L3.wIf, wNeg, wOp, wCall, wQ, wML, wNil, wCons, wTup, wLst, wLstM, wIsi, wSl, wPart, wNoPart, wMinD, wJoin, wFrz, gN, sIx, sIs, sIsN, sI, sI0, truU, tyOk, tyU, isTruth, L3.isNon, itemsU, listU, ixU, qInt, qAbs, qStr, L3.max_int, start3, L3.kk_nb, L3.kk_nt, L3.kk_ni, L3.kk_ns, L3.kk_nl, L3.kk_bb, L3.kk_bt, L3.kk_bi, L3.kk_bs, L3.kk_bl, L3.kk_ib, L3.kk_it, L3.kk_ii, L3.kk_is, L3.kk_il, L3.kk_sb, L3.kk_st, L3.kk_si, L3.kk_ss, L3.kk_sl, L3.kk_tb, L3.kk_tt, L3.kk_ti, L3.kk_ts, L3.kk_tl, L3.kk_lb, L3.kk_lt, L3.kk_li, L3.kk_ls, L3.kk_ll, L3.at_0, L3.at_1, L3.at_2, L3.at_3, L3.eqA_int, L3.eqA_str, L3.eqA_bl, L3.lt_int, L3.gt_int, L3.le_int, L3.ge_int, L3.lt_str, L3.gt_str, L3.le_str, L3.ge_str, L3.add_int, L3.add_str, L3.exd, L3.exd0, L3.exd1, L3.exd2, L3.exd3, L3.exd4, L3.min_int, L3.min_str, L3.len_str, L3.len_lst, L3.len_tup, wipeR, hx]
          exact ⟨xs[j], rfl, gds_at hj g.2, by omega, by simp; exact hN _ _ ⟨rfl, rfl⟩⟩
        · subst h1 h2
          exact ⟨[], rfl, by simpa using rtE q⟩)
  intro n
  induction n with
  | zero => exact go 0 ⟨0, by omega, _, z_l_alike D, fun h => absurd rfl h⟩
  | succ n ih => exact go (n + 1) ⟨n + 2, by omega, _, ih, fun _ => rfl⟩
def sl (xs : List Str) : List PyData := xs.map .str
theorem era_map {α β : Type} (f : α → β) : ∀ (l : List α) (n : Nat), (l.map f).eraseIdx n = (l.eraseIdx n).map f
  | [], _ => rfl
  | x :: l, 0 => rfl
  | x :: l, n + 1 => by
    show f x :: (l.map f).eraseIdx n = f x :: (l.eraseIdx n).map f
    rw [era_map f l n]
theorem era_perm {α : Type} : ∀ (l : List α) (n : Nat) (h : n < l.length), (l[n] :: l.eraseIdx n).Perm l
  | x :: l, 0, _ => .refl _
  | x :: l, n + 1, h => (List.Perm.swap _ _ _).trans (.cons x (era_perm l n (by simpa using h)))
def il (xs : List Int) : List PyData := xs.map .int
def ab (ns : List Int) : List Int := ns.map fun x => if x < 0 then -x else x
theorem ab_take {ns : List Int} {j : Nat} (h : j < ns.length) : ab (ns.take (j + 1)) = ab (ns.take j) ++ [if ns[j] < 0 then -ns[j] else ns[j]] := by
  unfold ab
  rw [List.take_succ_eq_append_getElem h, List.map_append]
  rfl
theorem ab_nn {ns : List Int} : ∀ x ∈ ab ns, 0 ≤ x := fun x h => by
  obtain ⟨y, _, e⟩ := List.mem_map.mp h
  subst e
  split <;> omega
def S_hand : WF := fun us μ Q => ∃ ns : List Int, us = [.d (.list (il ns))] ∧ ns.length ≤ 63 ∧ ∀ p, μ p = none → Q (.r p) (put μ p .hand)
theorem hand_ok (D : Dn K mg "_law_hand" s_l_hand) (m1 : mg "int" = none) (m2 : mg "len" = none) (m3 : mg "abs" = none) : C8.Cal P w K mg base 1 "_law_hand" (sp3 K S_hand) [] :=
  cal_l_hand D (m_len := m2) (m_int := m1) (m_abs := m3) (len := fun us μ Q ⟨_, e, _⟩ => by rw [e]; rfl) (h := fun us μ Q ⟨ns, e, hn, q⟩ => by
    subst e
    have big : 1000 < sizeLine := by decide
    have ln : (il ns).length = ns.length := List.length_map _
    simp [wSeq, wIfS, wRet, wRetN, wNext, wDrop, wAsg, wAug, wBreak, wCont, wV, wC, wB, L3.wTru, L3.wNot, wAnd, wOr, wAndV, wOrV, wNotV, L3.wIf, wNeg, wOp, wCall, wQ, wML, wNil, wCons, wTup, wLst, wLstM, wIsi, wSl, wPart, wNoPart, wMinD, wJoin, wFrz, gN, sIx, sIs, sIsN, sI, sI0, truU, tyOk, tyU, isTruth, L3.isNon, itemsU, listU, ixU, qInt, qAbs, qStr, L3.max_int, start3, L3.kk_nb, L3.kk_nt, L3.kk_ni, L3.kk_ns, L3.kk_nl, L3.kk_bb, L3.kk_bt, L3.kk_bi, L3.kk_bs, L3.kk_bl, L3.kk_ib, L3.kk_it, L3.kk_ii, L3.kk_is, L3.kk_il, L3.kk_sb, L3.kk_st, L3.kk_si, L3.kk_ss, L3.kk_sl, L3.kk_tb, L3.kk_tt, L3.kk_ti, L3.kk_ts, L3.kk_tl, L3.kk_lb, L3.kk_lt, L3.kk_li, L3.kk_ls, L3.kk_ll, L3.at_0, L3.at_1, L3.at_2, L3.at_3, L3.eqA_int, L3.eqA_str, L3.eqA_bl, L3.lt_int, L3.gt_int, L3.le_int, L3.ge_int, L3.lt_str, L3.gt_str, L3.le_str, L3.ge_str, L3.add_int, L3.add_str, L3.exd, L3.exd0, L3.exd1, L3.exd2, L3.exd3, L3.exd4, L3.min_int, L3.min_str, L3.len_str, L3.len_lst, L3.len_tup, W_l_hand, wFor, jSeq, CMul, ln]
    intro p hp
    refine forGo_inv (fun j ρ μ' => ∃ (t : Int) (x : Option U), ρ = [some (.d (.list (il ns))), some (.d (.int t)), some (.r p), x] ∧ t < 2 ^ 63 ∧ -(2^63) < t ∧ μ' = put μ p (.lst ((il (ab (ns.take j))).map U.d))) ⟨_, _, rfl, by omega, by omega, rfl⟩ (fun _ _ _ _ => trivial) (fun j hj ρ μ' N ⟨t, x, h1, h2, h3, h4⟩ hN => ?_) (fun ρ μ' ⟨t, x, h1, h2, h3, h4⟩ => ?_)
    · subst h1 h4
      have hj : j < ns.length := by simpa [ln] using hj
      have hx : (List.map U.d (il ns))[j] = .d (.int ns[j]) := by simp [il]
      rw [hx]
      simp [wSeq, wIfS, wRet, wRetN, wNext, wDrop, wAsg, wAug, wBreak, wCont, wV, wC, wB, L3.wTru, L3.wNot, wAnd, wOr, wAndV, wOrV, wNotV, L3.wIf, wNeg, wOp, wCall, wQ, wML, wNil, wCons, wTup, wLst, wLstM, wIsi, wSl, wPart, wNoPart, wMinD, wJoin, wFrz, gN, sIx, sIs, sIsN, sI, sI0, truU, tyOk, tyU, isTruth, L3.isNon, itemsU, listU, ixU, qInt, qAbs, qStr, L3.max_int, start3, L3.kk_nb, L3.kk_nt, L3.kk_ni, L3.kk_ns, L3.kk_nl, L3.kk_bb, L3.kk_bt, L3.kk_bi, L3.kk_bs, L3.kk_bl, L3.kk_ib, L3.kk_it, L3.kk_ii, L3.kk_is, L3.kk_il, L3.kk_sb, L3.kk_st, L3.kk_si, L3.kk_ss, L3.kk_sl, L3.kk_tb, L3.kk_tt, L3.kk_ti, L3.kk_ts, L3.kk_tl, L3.kk_lb, L3.kk_lt, L3.kk_li, L3.kk_ls, L3.kk_ll, L3.at_0, L3.at_1, L3.at_2, L3.at_3, L3.eqA_int, L3.eqA_str, L3.eqA_bl, L3.lt_int, L3.gt_int, L3.le_int, L3.ge_int, L3.lt_str, L3.gt_str, L3.le_str, L3.ge_str, L3.add_int, L3.add_str, L3.exd, L3.exd0, L3.exd1, L3.exd2, L3.exd3, L3.exd4, L3.min_int, L3.min_str, L3.len_str, L3.len_lst, L3.len_tup, CMul]
      have l0 : (ab (ns.take j)).length = j := by
        unfold ab
        rw [List.length_map, List.length_take]
        omega
      have k1 : 0 ≤ (t * 2011 + ns[j]) % 2147483543 := Int.emod_nonneg _ (by decide)
      have k2 : (t * 2011 + ns[j]) % 2147483543 < 2147483543 := Int.emod_lt_of_pos _ (by decide)
      refine ⟨isL_r put_same, append_r put_same (by simp [il, l0]; omega) (hN _ _ ⟨_, _, rfl, by omega, by omega, ?_⟩)⟩
      rw [put_put, ab_take hj]
      simp [il]
    · subst h1 h4
      refine ⟨p, il (ab (ns.take (List.map U.d (il ns)).length)), rfl, put_same, ?_⟩
      have e : ns.take (List.map U.d (il ns)).length = ns := by
        rw [List.length_map, ln]
        exact List.take_length
      rw [del_put hp, e]
      simp [wSeq, wIfS, wRet, wRetN, wNext, wDrop, wAsg, wAug, wBreak, wCont, wV, wC, wB, L3.wTru, L3.wNot, wAnd, wOr, wAndV, wOrV, wNotV, L3.wIf, wNeg, wOp, wCall, wQ, wML, wNil, wCons, wTup, wLst, wLstM, wIsi, wSl, wPart, wNoPart, wMinD, wJoin, wFrz, gN, sIx, sIs, sIsN, sI, sI0, truU, tyOk, tyU, isTruth, L3.isNon, itemsU, listU, ixU, qInt, qAbs, qStr, L3.max_int, start3, L3.kk_nb, L3.kk_nt, L3.kk_ni, L3.kk_ns, L3.kk_nl, L3.kk_bb, L3.kk_bt, L3.kk_bi, L3.kk_bs, L3.kk_bl, L3.kk_ib, L3.kk_it, L3.kk_ii, L3.kk_is, L3.kk_il, L3.kk_sb, L3.kk_st, L3.kk_si, L3.kk_ss, L3.kk_sl, L3.kk_tb, L3.kk_tt, L3.kk_ti, L3.kk_ts, L3.kk_tl, L3.kk_lb, L3.kk_lt, L3.kk_li, L3.kk_ls, L3.kk_ll, L3.at_0, L3.at_1, L3.at_2, L3.at_3, L3.eqA_int, L3.eqA_str, L3.eqA_bl, L3.lt_int, L3.gt_int, L3.le_int, L3.ge_int, L3.lt_str, L3.gt_str, L3.le_str, L3.ge_str, L3.add_int, L3.add_str, L3.exd, L3.exd0, L3.exd1, L3.exd2, L3.exd3, L3.exd4, L3.min_int, L3.min_str, L3.len_str, L3.len_lst, L3.len_tup, frzR]
      refine ⟨by decide, fun r hr => rtH put_same (ns := ab ns) ?_ ab_nn (by omega) (by omega) (by omega) (rtE ?_)⟩
      · unfold ab
        rw [List.length_map]
        exact hn
      · rw [put_put]
        exact q r hr)
theorem fdiv_nat (a b : Nat) : (a : Int).fdiv (b : Int) = ((a / b : Nat) : Int) := by
  rw [Int.fdiv_eq_ediv_of_nonneg _ (by omega)]
  rfl
def bl (xs : List Bool) : List PyData := xs.map .bool
theorem bl_len {xs : List Bool} : (bl xs).length = xs.length := List.length_map _
theorem sl_len {xs : List Str} : (sl xs).length = xs.length := List.length_map _
theorem rng_get {n j : Nat} (h : j < ((List.range n).map fun i : Nat => U.d (.int (i : Int))).length) : ((List.range n).map fun i : Nat => U.d (.int (i : Int)))[j] = .d (.int (j : Int)) := by
  rw [List.getElem_map, List.getElem_range]
theorem rng_len {n : Nat} : ((List.range n).map fun i : Nat => U.d (.int (i : Int))).length = n := by rw [List.length_map, List.length_range]
theorem lc_bools {i : Nat} {we : L3.WX} {Al : Mu → Prop} {us : List U} {ρ : Rho} {μ : Mu} {P : List U → Mu → Prop} (hl : us.length < sizeLine) (al : Al μ)
    (step : ∀ (j : Nat) (hj : j < us.length) (N : XP), (∀ b : Bool, N (.d (.bool b)) μ) → we (ρ.set i (some us[j])) μ N)
    (fin : ∀ bs : List Bool, bs.length = us.length → P ((bl bs).map U.d) μ) : lcGo (gN i) wYes we Al us [] ρ μ P := by
  refine lcGo_inv (fun j acc μ' => ∃ bs, acc = (bl bs).map U.d ∧ bs.length = j ∧ μ' = μ) ⟨[], rfl, rfl, rfl⟩ (fun j acc μ' ⟨_, _, _, e⟩ => e ▸ al) (fun j hj acc μ' N ⟨bs, h1, h2, h3⟩ hN => ?_) (fun acc μ' ⟨bs, h1, h2, h3⟩ => ?_)
  · subst h1 h3
    simp only [gN, wYes, if_true]
    refine step j hj _ fun b => ⟨by rw [List.length_map, bl_len]; omega, hN _ _ ⟨bs ++ [b], by simp [bl], by simp [h2], rfl⟩⟩
  · subst h1 h3
    exact fin bs h2
theorem lc_map {i : Nat} {we : L3.WX} {Al : Mu → Prop} {us : List U} {ρ : Rho} {μ : Mu} {P : List U → Mu → Prop} (f : Nat → PyData) (hl : us.length < sizeLine) (al : Al μ)
    (step : ∀ (j : Nat) (hj : j < us.length) (N : XP), N (.d (f j)) μ → we (ρ.set i (some us[j])) μ N)
    (fin : P (((List.range us.length).map f).map U.d) μ) : lcGo (gN i) wYes we Al us [] ρ μ P := by
  refine lcGo_inv (fun j acc μ' => acc = ((List.range j).map f).map U.d ∧ μ' = μ) ⟨rfl, rfl⟩ (fun j acc μ' ⟨_, e⟩ => e ▸ al) (fun j hj acc μ' N ⟨h1, h3⟩ hN => ?_) (fun acc μ' ⟨h1, h3⟩ => ?_)
  · subst h1 h3
    simp only [gN, wYes, if_true]
    refine step j hj _ ⟨by simp; omega, hN _ _ ⟨?_, rfl⟩⟩
    rw [List.range_succ, List.map_append, List.map_append]
    rfl
  · subst h1 h3
    exact fin
def S_bits : WF := fun us μ Q => ∃ (h : Addr) (m : Nat), us = [.r h, .d (.int (m : Int))] ∧ μ h = some .hand ∧ m ≤ 1000 ∧ ∀ bs : List Bool, bs.length = m → Q (.d (.list (bl bs))) μ
theorem bits_ok (D : Dn K mg "_law_bits" s_l_bits) (D1 : Dn K mg "_law_take" s_l_take) (D2 : Dn K mg "_law_stirred" s_l_stirred) (m1 : mg "int" = none) (m2 : mg "len" = none) (m4 : mg "range" = none) : C8.Cal P w K mg base 3 "_law_bits" (sp3 K S_bits) [] :=
  cal_l_bits D (c_l_take := take_ok D1 D2 m1 m2) (h_l_take := Nat.le_refl _) (m_range := m4) (len := fun us μ Q ⟨_, _, e, _⟩ => by rw [e]; rfl) (h := fun us μ Q ⟨h, m, e, hh, hm, q⟩ => by
    subst e
    have big : 1000 < sizeLine := by decide
    simp [wSeq, wIfS, wRet, wRetN, wNext, wDrop, wAsg, wAug, wBreak, wCont, wV, wC, wB, L3.wTru, L3.wNot, wAnd, wOr, wAndV, wOrV, wNotV, L3.wIf, wNeg, wOp, wCall, wQ, wML, wNil, wCons, wTup, wLst, wLstM, wIsi, wSl, wPart, wNoPart, wMinD, wJoin, wFrz, gN, sIx, sIs, sIsN, sI, sI0, truU, tyOk, tyU, isTruth, L3.isNon, itemsU, listU, ixU, qInt, qAbs, qStr, L3.max_int, start3, L3.kk_nb, L3.kk_nt, L3.kk_ni, L3.kk_ns, L3.kk_nl, L3.kk_bb, L3.kk_bt, L3.kk_bi, L3.kk_bs, L3.kk_bl, L3.kk_ib, L3.kk_it, L3.kk_ii, L3.kk_is, L3.kk_il, L3.kk_sb, L3.kk_st, L3.kk_si, L3.kk_ss, L3.kk_sl, L3.kk_tb, L3.kk_tt, L3.kk_ti, L3.kk_ts, L3.kk_tl, L3.kk_lb, L3.kk_lt, L3.kk_li, L3.kk_ls, L3.kk_ll, L3.at_0, L3.at_1, L3.at_2, L3.at_3, L3.eqA_int, L3.eqA_str, L3.eqA_bl, L3.lt_int, L3.gt_int, L3.le_int, L3.ge_int, L3.lt_str, L3.gt_str, L3.le_str, L3.ge_str, L3.add_int, L3.add_str, L3.exd, L3.exd0, L3.exd1, L3.exd2, L3.exd3, L3.exd4, L3.min_int, L3.min_str, L3.len_str, L3.len_lst, L3.len_tup, W_l_bits, wLc, jRng1]
    refine ⟨h, 6, rfl, hh, by omega, by omega, fun z z1 z2 => ?_⟩
    have fin : ∀ bs : List Bool, bs.length = m → (∃ ds, (bl bs).map U.d = ds.map U.d ∧ (E3 μ Q).rt (.d (.list ds)) μ) := fun bs e => ⟨_, rfl, rtE (q bs e)⟩
    have ln := rng_len (n := m)
    simp [wSeq, wIfS, wRet, wRetN, wNext, wDrop, wAsg, wAug, wBreak, wCont, wV, wC, wB, L3.wTru, L3.wNot, wAnd, wOr, wAndV, wOrV, wNotV, L3.wIf, wNeg, wOp, wCall, wQ, wML, wNil, wCons, wTup, wLst, wLstM, wIsi, wSl, wPart, wNoPart, wMinD, wJoin, wFrz, gN, sIx, sIs, sIsN, sI, sI0, truU, tyOk, tyU, isTruth, L3.isNon, itemsU, listU, ixU, qInt, qAbs, qStr, L3.max_int, start3, L3.kk_nb, L3.kk_nt, L3.kk_ni, L3.kk_ns, L3.kk_nl, L3.kk_bb, L3.kk_bt, L3.kk_bi, L3.kk_bs, L3.kk_bl, L3.kk_ib, L3.kk_it, L3.kk_ii, L3.kk_is, L3.kk_il, L3.kk_sb, L3.kk_st, L3.kk_si, L3.kk_ss, L3.kk_sl, L3.kk_tb, L3.kk_tt, L3.kk_ti, L3.kk_ts, L3.kk_tl, L3.kk_lb, L3.kk_lt, L3.kk_li, L3.kk_ls, L3.kk_ll, L3.at_0, L3.at_1, L3.at_2, L3.at_3, L3.eqA_int, L3.eqA_str, L3.eqA_bl, L3.lt_int, L3.gt_int, L3.le_int, L3.ge_int, L3.lt_str, L3.gt_str, L3.le_str, L3.ge_str, L3.add_int, L3.add_str, L3.exd, L3.exd0, L3.exd1, L3.exd2, L3.exd3, L3.exd4, L3.min_int, L3.min_str, L3.len_str, L3.len_lst, L3.len_tup]
    by_cases c0 : z = 0
    · refine .inr ⟨c0, h, 2, rfl, hh, by omega, by omega, fun y y1 y2 => ?_⟩
      simp [wSeq, wIfS, wRet, wRetN, wNext, wDrop, wAsg, wAug, wBreak, wCont, wV, wC, wB, L3.wTru, L3.wNot, wAnd, wOr, wAndV, wOrV, wNotV, L3.wIf, wNeg, wOp, wCall, wQ, wML, wNil, wCons, wTup, wLst, wLstM, wIsi, wSl, wPart, wNoPart, wMinD, wJoin, wFrz, gN, sIx, sIs, sIsN, sI, sI0, truU, tyOk, tyU, isTruth, L3.isNon, itemsU, listU, ixU, qInt, qAbs, qStr, L3.max_int, start3, L3.kk_nb, L3.kk_nt, L3.kk_ni, L3.kk_ns, L3.kk_nl, L3.kk_bb, L3.kk_bt, L3.kk_bi, L3.kk_bs, L3.kk_bl, L3.kk_ib, L3.kk_it, L3.kk_ii, L3.kk_is, L3.kk_il, L3.kk_sb, L3.kk_st, L3.kk_si, L3.kk_ss, L3.kk_sl, L3.kk_tb, L3.kk_tt, L3.kk_ti, L3.kk_ts, L3.kk_tl, L3.kk_lb, L3.kk_lt, L3.kk_li, L3.kk_ls, L3.kk_ll, L3.at_0, L3.at_1, L3.at_2, L3.at_3, L3.eqA_int, L3.eqA_str, L3.eqA_bl, L3.lt_int, L3.gt_int, L3.le_int, L3.ge_int, L3.lt_str, L3.gt_str, L3.le_str, L3.ge_str, L3.add_int, L3.add_str, L3.exd, L3.exd0, L3.exd1, L3.exd2, L3.exd3, L3.exd4, L3.min_int, L3.min_str, L3.len_str, L3.len_lst, L3.len_tup]
      refine ⟨by omega, lc_bools (by rw [ln]; omega) trivial (fun j hj N hN => ?_) fun bs e => fin bs (by rw [e, ln])⟩
      simp [wSeq, wIfS, wRet, wRetN, wNext, wDrop, wAsg, wAug, wBreak, wCont, wV, wC, wB, L3.wTru, L3.wNot, wAnd, wOr, wAndV, wOrV, wNotV, L3.wIf, wNeg, wOp, wCall, wQ, wML, wNil, wCons, wTup, wLst, wLstM, wIsi, wSl, wPart, wNoPart, wMinD, wJoin, wFrz, gN, sIx, sIs, sIsN, sI, sI0, truU, tyOk, tyU, isTruth, L3.isNon, itemsU, listU, ixU, qInt, qAbs, qStr, L3.max_int, start3, L3.kk_nb, L3.kk_nt, L3.kk_ni, L3.kk_ns, L3.kk_nl, L3.kk_bb, L3.kk_bt, L3.kk_bi, L3.kk_bs, L3.kk_bl, L3.kk_ib, L3.kk_it, L3.kk_ii, L3.kk_is, L3.kk_il, L3.kk_sb, L3.kk_st, L3.kk_si, L3.kk_ss, L3.kk_sl, L3.kk_tb, L3.kk_tt, L3.kk_ti, L3.kk_ts, L3.kk_tl, L3.kk_lb, L3.kk_lt, L3.kk_li, L3.kk_ls, L3.kk_ll, L3.at_0, L3.at_1, L3.at_2, L3.at_3, L3.eqA_int, L3.eqA_str, L3.eqA_bl, L3.lt_int, L3.gt_int, L3.le_int, L3.ge_int, L3.lt_str, L3.gt_str, L3.le_str, L3.ge_str, L3.add_int, L3.add_str, L3.exd, L3.exd0, L3.exd1, L3.exd2, L3.exd3, L3.exd4, L3.min_int, L3.min_str, L3.len_str, L3.len_lst, L3.len_tup, wipeR]
      exact hN _
    · refine .inl ⟨c0, ?_⟩
      by_cases c1 : z = 1
      · refine .inr ⟨c1, by omega, lc_bools (by rw [ln]; omega) trivial (fun j hj N hN => ?_) fun bs e => fin bs (by rw [e, ln])⟩
        simp [wSeq, wIfS, wRet, wRetN, wNext, wDrop, wAsg, wAug, wBreak, wCont, wV, wC, wB, L3.wTru, L3.wNot, wAnd, wOr, wAndV, wOrV, wNotV, L3.wIf, wNeg, wOp, wCall, wQ, wML, wNil, wCons, wTup, wLst, wLstM, wIsi, wSl, wPart, wNoPart, wMinD, wJoin, wFrz, gN, sIx, sIs, sIsN, sI, sI0, truU, tyOk, tyU, isTruth, L3.isNon, itemsU, listU, ixU, qInt, qAbs, qStr, L3.max_int, start3, L3.kk_nb, L3.kk_nt, L3.kk_ni, L3.kk_ns, L3.kk_nl, L3.kk_bb, L3.kk_bt, L3.kk_bi, L3.kk_bs, L3.kk_bl, L3.kk_ib, L3.kk_it, L3.kk_ii, L3.kk_is, L3.kk_il, L3.kk_sb, L3.kk_st, L3.kk_si, L3.kk_ss, L3.kk_sl, L3.kk_tb, L3.kk_tt, L3.kk_ti, L3.kk_ts, L3.kk_tl, L3.kk_lb, L3.kk_lt, L3.kk_li, L3.kk_ls, L3.kk_ll, L3.at_0, L3.at_1, L3.at_2, L3.at_3, L3.eqA_int, L3.eqA_str, L3.eqA_bl, L3.lt_int, L3.gt_int, L3.le_int, L3.ge_int, L3.lt_str, L3.gt_str, L3.le_str, L3.ge_str, L3.add_int, L3.add_str, L3.exd, L3.exd0, L3.exd1, L3.exd2, L3.exd3, L3.exd4, L3.min_int, L3.min_str, L3.len_str, L3.len_lst, L3.len_tup, wipeR]
        exact ⟨h, 8, rfl, hh, by omega, by omega, fun y y1 y2 => by simp [wSeq, wIfS, wRet, wRetN, wNext, wDrop, wAsg, wAug, wBreak, wCont, wV, wC, wB, L3.wTru, L3.wNot, wAnd, wOr, wAndV, wOrV, wNotV, L3.wIf, wNeg, wOp, wCall, wQ, wML, wNil, wCons, wTup, wLst, wLstM, wIsi, wSl, wPart, wNoPart, wMinD, wJoin, wFrz, gN, sIx, sIs, sIsN, sI, sI0, truU, tyOk, tyU, isTruth, L3.isNon, itemsU, listU, ixU, qInt, qAbs, qStr, L3.max_int, start3, L3.kk_nb, L3.kk_nt, L3.kk_ni, L3.kk_ns, L3.kk_nl, L3.kk_bb, L3.kk_bt, L3.kk_bi, L3.kk_bs, L3.kk_bl, L3.kk_ib, L3.kk_it, L3.kk_ii, L3.kk_is, L3.kk_il, L3.kk_sb, L3.kk_st, L3.kk_si, L3.kk_ss, L3.kk_sl, L3.kk_tb, L3.kk_tt, L3.kk_ti, L3.kk_ts, L3.kk_tl, L3.kk_lb, L3.kk_lt, L3.kk_li, L3.kk_ls, L3.kk_ll, L3.at_0, L3.at_1, L3.at_2, L3.at_3, L3.eqA_int, L3.eqA_str, L3.eqA_bl, L3.lt_int, L3.gt_int, L3.le_int, L3.ge_int, L3.lt_str, L3.gt_str, L3.le_str, L3.ge_str, L3.add_int, L3.add_str, L3.exd, L3.exd0, L3.exd1, L3.exd2, L3.exd3, L3.exd4, L3.min_int, L3.min_str, L3.len_str, L3.len_lst, L3.len_tup]; exact hN _⟩
      · refine .inl ⟨c1, by omega, lc_bools (by rw [ln]; omega) trivial (fun j hj N hN => ?_) fun bs e => fin bs (by rw [e, ln])⟩
        simp [wSeq, wIfS, wRet, wRetN, wNext, wDrop, wAsg, wAug, wBreak, wCont, wV, wC, wB, L3.wTru, L3.wNot, wAnd, wOr, wAndV, wOrV, wNotV, L3.wIf, wNeg, wOp, wCall, wQ, wML, wNil, wCons, wTup, wLst, wLstM, wIsi, wSl, wPart, wNoPart, wMinD, wJoin, wFrz, gN, sIx, sIs, sIsN, sI, sI0, truU, tyOk, tyU, isTruth, L3.isNon, itemsU, listU, ixU, qInt, qAbs, qStr, L3.max_int, start3, L3.kk_nb, L3.kk_nt, L3.kk_ni, L3.kk_ns, L3.kk_nl, L3.kk_bb, L3.kk_bt, L3.kk_bi, L3.kk_bs, L3.kk_bl, L3.kk_ib, L3.kk_it, L3.kk_ii, L3.kk_is, L3.kk_il, L3.kk_sb, L3.kk_st, L3.kk_si, L3.kk_ss, L3.kk_sl, L3.kk_tb, L3.kk_tt, L3.kk_ti, L3.kk_ts, L3.kk_tl, L3.kk_lb, L3.kk_lt, L3.kk_li, L3.kk_ls, L3.kk_ll, L3.at_0, L3.at_1, L3.at_2, L3.at_3, L3.eqA_int, L3.eqA_str, L3.eqA_bl, L3.lt_int, L3.gt_int, L3.le_int, L3.ge_int, L3.lt_str, L3.gt_str, L3.le_str, L3.ge_str, L3.add_int, L3.add_str, L3.exd, L3.exd0, L3.exd1, L3.exd2, L3.exd3, L3.exd4, L3.min_int, L3.min_str, L3.len_str, L3.len_lst, L3.len_tup, wipeR]
        exact ⟨h, 2, rfl, hh, by omega, by omega, fun y y1 y2 => by simp [wSeq, wIfS, wRet, wRetN, wNext, wDrop, wAsg, wAug, wBreak, wCont, wV, wC, wB, L3.wTru, L3.wNot, wAnd, wOr, wAndV, wOrV, wNotV, L3.wIf, wNeg, wOp, wCall, wQ, wML, wNil, wCons, wTup, wLst, wLstM, wIsi, wSl, wPart, wNoPart, wMinD, wJoin, wFrz, gN, sIx, sIs, sIsN, sI, sI0, truU, tyOk, tyU, isTruth, L3.isNon, itemsU, listU, ixU, qInt, qAbs, qStr, L3.max_int, start3, L3.kk_nb, L3.kk_nt, L3.kk_ni, L3.kk_ns, L3.kk_nl, L3.kk_bb, L3.kk_bt, L3.kk_bi, L3.kk_bs, L3.kk_bl, L3.kk_ib, L3.kk_it, L3.kk_ii, L3.kk_is, L3.kk_il, L3.kk_sb, L3.kk_st, L3.kk_si, L3.kk_ss, L3.kk_sl, L3.kk_tb, L3.kk_tt, L3.kk_ti, L3.kk_ts, L3.kk_tl, L3.kk_lb, L3.kk_lt, L3.kk_li, L3.kk_ls, L3.kk_ll, L3.at_0, L3.at_1, L3.at_2, L3.at_3, L3.eqA_int, L3.eqA_str, L3.eqA_bl, L3.lt_int, L3.gt_int, L3.le_int, L3.ge_int, L3.lt_str, L3.gt_str, L3.le_str, L3.ge_str, L3.add_int, L3.add_str, L3.exd, L3.exd0, L3.exd1, L3.exd2, L3.exd3, L3.exd4, L3.min_int, L3.min_str, L3.len_str, L3.len_lst, L3.len_tup]; exact hN _⟩)
theorem cut_take {α : Type} {xs : List α} {k : Nat} (h : k ≤ xs.length) : cutL xs none (some (k : Int)) = xs.take k := by
  unfold cutL
  rw [HT.sIx_none, HT.sIx_nat, Nat.min_eq_left h, Nat.sub_zero]
  rfl
theorem cut_drop {α : Type} {xs : List α} {k : Nat} (h : k ≤ xs.length) : cutL xs (some (k : Int)) none = xs.drop k := by
  unfold cutL
  rw [HT.sIx_none, HT.sIx_nat, Nat.min_eq_left h, ← List.length_drop, List.take_length]
theorem eqA_T {a b : T} {μ : Mu} {Q : XP} {f : Bool → Bool} (na : a.nm) (nb : b.nm) (ha : a.h ≤ 64) (hb : b.h ≤ 64) (h1 : a = b → Q (.d (.bool (f true))) μ) (h2 : a ≠ b → Q (.d (.bool (f false))) μ) : sEqA f (.d a.d) (.d b.d) μ Q := by
  have h : sEq f (.d a.d) (.d b.d) μ Q := by
    refine ⟨_, _, rfl, rfl, shp na ha, shp nb hb, ?_⟩
    rcases eqv_dd a b with ⟨e, h⟩ | ⟨e, h⟩
    · rw [e]; exact h1 h
    · rw [e]; exact h2 h
  cases a with
  | nd s u v => exact h
  | lit x =>
    cases b with
    | nd z p q => exact h
    | lit y =>
      show Q (.d (.bool (f (decide (x = y))))) μ
      by_cases e : x = y
      · subst e; rw [decide_eq_true rfl]; exact h1 rfl
      · rw [decide_eq_false e]; exact h2 fun k => e (by cases k; rfl)
def S_form (n : Nat) : WF := fun us μ Q => ∃ (names : List Str) (row : List Bool), us = [.d (.list (sl names)), .d (.list (bl row))] ∧ names.length ≤ n ∧ row.length = 2 ^ names.length ∧ n ≤ 20 ∧ (∀ x ∈ names, PyData.strOk x = true) ∧ Q (.d (form names row).d) μ
theorem len_form {n : Nat} : ∀ us μ Q, S_form n us μ Q → us.length = 2 := fun us μ Q ⟨_, _, e, _⟩ => by rw [e]; rfl
theorem form_ok (D : Dn K mg "_law_form" s_l_form) (m2 : mg "len" = none) : ∀ n, C8.Cal P w K mg base (n + 1) "_law_form" (sp3 K (S_form n)) []
  | 0 => cal_l_form D (c_l_form := z_l_form D) (h_l_form := Nat.le_refl _) (m_len := m2) (len := len_form) (h := fun us μ Q ⟨names, row, e, h1, h2, h3, h4, q⟩ => by
    subst e
    have h1 := List.length_eq_zero_iff.mp (Nat.le_zero.mp h1)
    subst h1
    have h2 : row.length = 1 := h2
    match row, h2 with
    | [b], _ =>
      simp [wSeq, wIfS, wRet, wRetN, wNext, wDrop, wAsg, wAug, wBreak, wCont, wV, wC, wB, L3.wTru, L3.wNot, wAnd, wOr, wAndV, wOrV, wNotV, L3.wIf, wNeg, wOp, wCall, wQ, wML, wNil, wCons, wTup, wLst, wLstM, wIsi, wSl, wPart, wNoPart, wMinD, wJoin, wFrz, gN, sIx, sIs, sIsN, sI, sI0, truU, tyOk, tyU, isTruth, L3.isNon, itemsU, listU, ixU, qInt, qAbs, qStr, L3.max_int, start3, L3.kk_nb, L3.kk_nt, L3.kk_ni, L3.kk_ns, L3.kk_nl, L3.kk_bb, L3.kk_bt, L3.kk_bi, L3.kk_bs, L3.kk_bl, L3.kk_ib, L3.kk_it, L3.kk_ii, L3.kk_is, L3.kk_il, L3.kk_sb, L3.kk_st, L3.kk_si, L3.kk_ss, L3.kk_sl, L3.kk_tb, L3.kk_tt, L3.kk_ti, L3.kk_ts, L3.kk_tl, L3.kk_lb, L3.kk_lt, L3.kk_li, L3.kk_ls, L3.kk_ll, L3.at_0, L3.at_1, L3.at_2, L3.at_3, L3.eqA_int, L3.eqA_str, L3.eqA_bl, L3.lt_int, L3.gt_int, L3.le_int, L3.ge_int, L3.lt_str, L3.gt_str, L3.le_str, L3.ge_str, L3.add_int, L3.add_str, L3.exd, L3.exd0, L3.exd1, L3.exd2, L3.exd3, L3.exd4, L3.min_int, L3.min_str, L3.len_str, L3.len_lst, L3.len_tup, W_l_form, sl, bl]
      exact rtE q)
  | n + 1 => cal_l_form D (c_l_form := form_ok D m2 n) (h_l_form := Nat.le_refl _) (m_len := m2) (len := len_form) (h := fun us μ Q ⟨names, row, e, h1, h2, h3, h4, q⟩ => by
    subst e
    match names, h1 with
    | [], _ =>
      have h2 : row.length = 1 := h2
      match row, h2 with
      | [b], _ =>
        simp [wSeq, wIfS, wRet, wRetN, wNext, wDrop, wAsg, wAug, wBreak, wCont, wV, wC, wB, L3.wTru, L3.wNot, wAnd, wOr, wAndV, wOrV, wNotV, L3.wIf, wNeg, wOp, wCall, wQ, wML, wNil, wCons, wTup, wLst, wLstM, wIsi, wSl, wPart, wNoPart, wMinD, wJoin, wFrz, gN, sIx, sIs, sIsN, sI, sI0, truU, tyOk, tyU, isTruth, L3.isNon, itemsU, listU, ixU, qInt, qAbs, qStr, L3.max_int, start3, L3.kk_nb, L3.kk_nt, L3.kk_ni, L3.kk_ns, L3.kk_nl, L3.kk_bb, L3.kk_bt, L3.kk_bi, L3.kk_bs, L3.kk_bl, L3.kk_ib, L3.kk_it, L3.kk_ii, L3.kk_is, L3.kk_il, L3.kk_sb, L3.kk_st, L3.kk_si, L3.kk_ss, L3.kk_sl, L3.kk_tb, L3.kk_tt, L3.kk_ti, L3.kk_ts, L3.kk_tl, L3.kk_lb, L3.kk_lt, L3.kk_li, L3.kk_ls, L3.kk_ll, L3.at_0, L3.at_1, L3.at_2, L3.at_3, L3.eqA_int, L3.eqA_str, L3.eqA_bl, L3.lt_int, L3.gt_int, L3.le_int, L3.ge_int, L3.lt_str, L3.gt_str, L3.le_str, L3.ge_str, L3.add_int, L3.add_str, L3.exd, L3.exd0, L3.exd1, L3.exd2, L3.exd3, L3.exd4, L3.min_int, L3.min_str, L3.len_str, L3.len_lst, L3.len_tup, W_l_form, sl, bl]
        exact rtE q
    | x :: xs, h1 =>
      have h1 : xs.length ≤ n := by simpa using h1
      have hr : row.length = 2 ^ xs.length + 2 ^ xs.length := by rw [h2, List.length_cons, Nat.pow_succ]; omega
      have half : ((row.length : Nat) : Int).fdiv 2 = ((row.length / 2 : Nat) : Int) := fdiv_nat _ 2
      have hv : row.length / 2 = 2 ^ xs.length := by omega
      have ok : ∀ y ∈ xs, PyData.strOk y = true := fun y hy => h4 y (List.mem_cons_of_mem _ hy)
      have c1 : cutL (sl (x :: xs)) (some 1) none = sl xs := cut_drop (xs := sl (x :: xs)) (k := 1) (by simp [sl])
      have c2 : cutL (bl row) none (some ((row.length / 2 : Nat) : Int)) = bl (row.take (row.length / 2)) := by
        rw [cut_take (by rw [bl_len]; omega)]
        simp [bl]
      have c3 : cutL (bl row) (some ((row.length / 2 : Nat) : Int)) none = bl (row.drop (row.length / 2)) := by
        rw [cut_drop (by rw [bl_len]; omega)]
        simp [bl]
      have c4 : atI ((sl (x :: xs)).map U.d) 0 = some (.d (.str x)) := L3.at_0
      have c5 : ¬ ((sl (x :: xs)).length : Int) = 0 := by simp [sl]; omega
      generalize hL : row.length / 2 = L at *
      have c6 : (sl (x :: xs)).length ≠ 0 := by simp [sl]
      generalize hN : sl (x :: xs) = N at *
      simp [wSeq, wIfS, wRet, wRetN, wNext, wDrop, wAsg, wAug, wBreak, wCont, wV, wC, wB, L3.wTru, L3.wNot, wAnd, wOr, wAndV, wOrV, wNotV, L3.wIf, wNeg, wOp, wCall, wQ, wML, wNil, wCons, wTup, wLst, wLstM, wIsi, wSl, wPart, wNoPart, wMinD, wJoin, wFrz, gN, sIx, sIs, sIsN, sI, sI0, truU, tyOk, tyU, isTruth, L3.isNon, itemsU, listU, ixU, qInt, qAbs, qStr, L3.max_int, start3, L3.kk_nb, L3.kk_nt, L3.kk_ni, L3.kk_ns, L3.kk_nl, L3.kk_bb, L3.kk_bt, L3.kk_bi, L3.kk_bs, L3.kk_bl, L3.kk_ib, L3.kk_it, L3.kk_ii, L3.kk_is, L3.kk_il, L3.kk_sb, L3.kk_st, L3.kk_si, L3.kk_ss, L3.kk_sl, L3.kk_tb, L3.kk_tt, L3.kk_ti, L3.kk_ts, L3.kk_tl, L3.kk_lb, L3.kk_lt, L3.kk_li, L3.kk_ls, L3.kk_ll, L3.at_0, L3.at_1, L3.at_2, L3.at_3, L3.eqA_int, L3.eqA_str, L3.eqA_bl, L3.lt_int, L3.gt_int, L3.le_int, L3.ge_int, L3.lt_str, L3.gt_str, L3.le_str, L3.ge_str, L3.add_int, L3.add_str, L3.exd, L3.exd0, L3.exd1, L3.exd2, L3.exd3, L3.exd4, L3.min_int, L3.min_str, L3.len_str, L3.len_lst, L3.len_tup, W_l_form, bl_len, CDivN, half, c1, c2, c3, c4, c5, c6]
      have k1 := form_h (names := xs) (row := row.drop L)
      have k2 := form_h (names := xs) (row := row.take L)
      refine ⟨xs, _, rfl, h1, by rw [List.length_take]; omega, by omega, ok, xs, _, rfl, h1, by rw [List.length_drop]; omega, by omega, ok, ?_⟩
      refine eqA_T (form_nm ok) (form_nm ok) (by omega) (by omega) (fun e => .inr ⟨rfl, rtE ?_⟩) fun e => .inl ⟨rfl, ?_⟩
      · rw [show form (x :: xs) row = node x (form xs (row.drop (row.length / 2))) (form xs (row.take (row.length / 2))) from rfl, hL, node_eq e] at q
        exact q
      · rw [show form (x :: xs) row = node x (form xs (row.drop (row.length / 2))) (form xs (row.take (row.length / 2))) from rfl, hL, node_ne e] at q
        exact ⟨_, rfl, L3.sl0 (by simp), rtE q⟩)
def sets : List Str → List (List Str)
  | [] => [[]]
  | x :: xs => sets xs ++ (sets xs).map fun r => x :: r
theorem sets_len : ∀ {xs : List Str}, (sets xs).length = 2 ^ xs.length
  | [] => rfl
  | x :: xs => by
    show (sets xs ++ (sets xs).map _).length = 2 ^ (xs.length + 1)
    rw [List.length_append, List.length_map, sets_len, Nat.pow_succ]
    omega
theorem sets_row : ∀ {xs : List Str} (r : List Str), r ∈ sets xs → r.length ≤ xs.length
  | [], r, h => by
    have h : r = [] := by simpa [sets] using h
    subst h
    exact Nat.le_refl _
  | x :: xs, r, h => by
    rcases List.mem_append.mp h with h | h
    · exact Nat.le_succ_of_le (sets_row r h)
    · obtain ⟨t, h1, rfl⟩ := List.mem_map.mp h
      exact Nat.succ_le_succ (sets_row t h1)
def sd2 (l : List (List Str)) : List PyData := l.map fun r => .list (sl r)
theorem range_getD {α : Type} {d : α} {l : List α} : (List.range l.length).map (fun j => l.getD j d) = l := by
  refine List.ext_getElem (by simp) fun i h1 h2 => ?_
  simp [h2]
def S_sets : WF := fun us μ Q => ∃ names : List Str, us = [.d (.list (sl names))] ∧ names.length ≤ 6 ∧ Q (.d (.list (sd2 (sets names)))) μ
theorem sets_ok (D : Dn K mg "_law_settings" s_l_settings) (m1 : mg "reversed" = none) : C8.Cal P w K mg base 1 "_law_settings" (sp3 K S_sets) [] :=
  cal_l_settings D (m_reversed := m1) (len := fun us μ Q ⟨_, e, _⟩ => by rw [e]; rfl) (h := fun us μ Q ⟨names, e, hn, q⟩ => by
    subst e
    have big : 1000 < sizeLine := by decide
    simp [wSeq, wIfS, wRet, wRetN, wNext, wDrop, wAsg, wAug, wBreak, wCont, wV, wC, wB, L3.wTru, L3.wNot, wAnd, wOr, wAndV, wOrV, wNotV, L3.wIf, wNeg, wOp, wCall, wQ, wML, wNil, wCons, wTup, wLst, wLstM, wIsi, wSl, wPart, wNoPart, wMinD, wJoin, wFrz, gN, sIx, sIs, sIsN, sI, sI0, truU, tyOk, tyU, isTruth, L3.isNon, itemsU, listU, ixU, qInt, qAbs, qStr, L3.max_int, start3, L3.kk_nb, L3.kk_nt, L3.kk_ni, L3.kk_ns, L3.kk_nl, L3.kk_bb, L3.kk_bt, L3.kk_bi, L3.kk_bs, L3.kk_bl, L3.kk_ib, L3.kk_it, L3.kk_ii, L3.kk_is, L3.kk_il, L3.kk_sb, L3.kk_st, L3.kk_si, L3.kk_ss, L3.kk_sl, L3.kk_tb, L3.kk_tt, L3.kk_ti, L3.kk_ts, L3.kk_tl, L3.kk_lb, L3.kk_lt, L3.kk_li, L3.kk_ls, L3.kk_ll, L3.at_0, L3.at_1, L3.at_2, L3.at_3, L3.eqA_int, L3.eqA_str, L3.eqA_bl, L3.lt_int, L3.gt_int, L3.le_int, L3.ge_int, L3.lt_str, L3.gt_str, L3.le_str, L3.ge_str, L3.add_int, L3.add_str, L3.exd, L3.exd0, L3.exd1, L3.exd2, L3.exd3, L3.exd4, L3.min_int, L3.min_str, L3.len_str, L3.len_lst, L3.len_tup, W_l_settings, wFor, jRev]
    refine ⟨by decide, ?_⟩
    refine forGo_inv (fun j ρ μ' => ∃ x y : Option U, ρ = [some (.d (.list (sl names))), some (.d (.list (sd2 (sets (names.drop (names.length - j)))))), x, y] ∧ μ' = μ) ?_ (fun _ _ μ' _ => trivial) (fun j hj ρ μ' N h hN => ?_) (fun ρ μ' h => ?_)
    · exact ⟨none, none, by simp [sets, sd2]; rfl, rfl⟩
    · obtain ⟨x, y, h1, h2⟩ := h
      subst h1 h2
      have hj : j < names.length := by simpa [sl_len] using hj
      have hi : names.length - 1 - j < names.length := by omega
      have hx : ((sl names).map U.d).reverse[j] = .d (.str names[names.length - 1 - j]) := by simp [sl]
      have hd : names.drop (names.length - (j + 1)) = names[names.length - 1 - j] :: names.drop (names.length - j) := by
        rw [show names.length - (j + 1) = names.length - 1 - j by omega, List.drop_eq_getElem_cons hi]
        congr 2
        omega
      rw [hx]
      have hs : (sets (names.drop (names.length - j))).length ≤ 64 := by
        rw [sets_len, List.length_drop]
        exact Nat.le_trans (Nat.pow_le_pow_right (by decide) (show names.length - (names.length - j) ≤ 6 by omega)) (by decide)
      have hS : ∀ r ∈ sets (names.drop (names.length - j)), r.length ≤ 6 := fun r hr => by
        have := sets_row r hr
        rw [List.length_drop] at this
        omega
      have hd' : sets (names.drop (names.length - (j + 1))) = sets (names.drop (names.length - j)) ++ (sets (names.drop (names.length - j))).map fun r => names[names.length - 1 - j] :: r := by rw [hd]; rfl
      generalize sets (names.drop (names.length - j)) = S at *
      generalize names[names.length - 1 - j] = z at *
      have e2 : (sd2 S).length = S.length := List.length_map _
      simp [wSeq, wIfS, wRet, wRetN, wNext, wDrop, wAsg, wAug, wBreak, wCont, wV, wC, wB, L3.wTru, L3.wNot, wAnd, wOr, wAndV, wOrV, wNotV, L3.wIf, wNeg, wOp, wCall, wQ, wML, wNil, wCons, wTup, wLst, wLstM, wIsi, wSl, wPart, wNoPart, wMinD, wJoin, wFrz, gN, sIx, sIs, sIsN, sI, sI0, truU, tyOk, tyU, isTruth, L3.isNon, itemsU, listU, ixU, qInt, qAbs, qStr, L3.max_int, start3, L3.kk_nb, L3.kk_nt, L3.kk_ni, L3.kk_ns, L3.kk_nl, L3.kk_bb, L3.kk_bt, L3.kk_bi, L3.kk_bs, L3.kk_bl, L3.kk_ib, L3.kk_it, L3.kk_ii, L3.kk_is, L3.kk_il, L3.kk_sb, L3.kk_st, L3.kk_si, L3.kk_ss, L3.kk_sl, L3.kk_tb, L3.kk_tt, L3.kk_ti, L3.kk_ts, L3.kk_tl, L3.kk_lb, L3.kk_lt, L3.kk_li, L3.kk_ls, L3.kk_ll, L3.at_0, L3.at_1, L3.at_2, L3.at_3, L3.eqA_int, L3.eqA_str, L3.eqA_bl, L3.lt_int, L3.gt_int, L3.le_int, L3.ge_int, L3.lt_str, L3.gt_str, L3.le_str, L3.ge_str, L3.add_int, L3.add_str, L3.exd, L3.exd0, L3.exd1, L3.exd2, L3.exd3, L3.exd4, L3.min_int, L3.min_str, L3.len_str, L3.len_lst, L3.len_tup, wLc, jSeq]
      refine lc_map (fun j => (sd2 (S.map fun r => z :: r)).getD j .none) (by rw [List.length_map, e2]; omega) trivial (fun i hi' N' hN' => ?_) ?_
      · have hi' : i < S.length := by simpa [e2] using hi'
        have e3 : ((sd2 S).map U.d)[i] = .d (.list (sl S[i])) := by simp [sd2]
        have e4 : (sd2 (S.map fun r => z :: r)).getD i .none = .list (.str z :: sl S[i]) := by simp [sd2, hi', sl]
        rw [e3]
        rw [e4] at hN'
        simp [wSeq, wIfS, wRet, wRetN, wNext, wDrop, wAsg, wAug, wBreak, wCont, wV, wC, wB, L3.wTru, L3.wNot, wAnd, wOr, wAndV, wOrV, wNotV, L3.wIf, wNeg, wOp, wCall, wQ, wML, wNil, wCons, wTup, wLst, wLstM, wIsi, wSl, wPart, wNoPart, wMinD, wJoin, wFrz, gN, sIx, sIs, sIsN, sI, sI0, truU, tyOk, tyU, isTruth, L3.isNon, itemsU, listU, ixU, qInt, qAbs, qStr, L3.max_int, start3, L3.kk_nb, L3.kk_nt, L3.kk_ni, L3.kk_ns, L3.kk_nl, L3.kk_bb, L3.kk_bt, L3.kk_bi, L3.kk_bs, L3.kk_bl, L3.kk_ib, L3.kk_it, L3.kk_ii, L3.kk_is, L3.kk_il, L3.kk_sb, L3.kk_st, L3.kk_si, L3.kk_ss, L3.kk_sl, L3.kk_tb, L3.kk_tt, L3.kk_ti, L3.kk_ts, L3.kk_tl, L3.kk_lb, L3.kk_lt, L3.kk_li, L3.kk_ls, L3.kk_ll, L3.at_0, L3.at_1, L3.at_2, L3.at_3, L3.eqA_int, L3.eqA_str, L3.eqA_bl, L3.lt_int, L3.gt_int, L3.le_int, L3.ge_int, L3.lt_str, L3.gt_str, L3.le_str, L3.ge_str, L3.add_int, L3.add_str, L3.exd, L3.exd0, L3.exd1, L3.exd2, L3.exd3, L3.exd4, L3.min_int, L3.min_str, L3.len_str, L3.len_lst, L3.len_tup, wipeR]
        refine ⟨by decide, add_lst ?_ hN'⟩
        have := hS S[i] (List.getElem_mem hi')
        rw [sl_len]
        simp
        omega
      · rw [List.length_map, e2, show S.length = (sd2 (S.map fun r => z :: r)).length by simp [sd2], range_getD]
        refine ⟨_, rfl, add_lst (by rw [e2]; simp [sd2]; omega) (hN _ _ ⟨some (.d (.str z)), y, ?_, rfl⟩)⟩
        rw [hd']
        simp [sd2]
    · obtain ⟨x, y, h1, h2⟩ := h
      subst h1 h2
      simp [wSeq, wIfS, wRet, wRetN, wNext, wDrop, wAsg, wAug, wBreak, wCont, wV, wC, wB, L3.wTru, L3.wNot, wAnd, wOr, wAndV, wOrV, wNotV, L3.wIf, wNeg, wOp, wCall, wQ, wML, wNil, wCons, wTup, wLst, wLstM, wIsi, wSl, wPart, wNoPart, wMinD, wJoin, wFrz, gN, sIx, sIs, sIsN, sI, sI0, truU, tyOk, tyU, isTruth, L3.isNon, itemsU, listU, ixU, qInt, qAbs, qStr, L3.max_int, start3, L3.kk_nb, L3.kk_nt, L3.kk_ni, L3.kk_ns, L3.kk_nl, L3.kk_bb, L3.kk_bt, L3.kk_bi, L3.kk_bs, L3.kk_bl, L3.kk_ib, L3.kk_it, L3.kk_ii, L3.kk_is, L3.kk_il, L3.kk_sb, L3.kk_st, L3.kk_si, L3.kk_ss, L3.kk_sl, L3.kk_tb, L3.kk_tt, L3.kk_ti, L3.kk_ts, L3.kk_tl, L3.kk_lb, L3.kk_lt, L3.kk_li, L3.kk_ls, L3.kk_ll, L3.at_0, L3.at_1, L3.at_2, L3.at_3, L3.eqA_int, L3.eqA_str, L3.eqA_bl, L3.lt_int, L3.gt_int, L3.le_int, L3.ge_int, L3.lt_str, L3.gt_str, L3.le_str, L3.ge_str, L3.add_int, L3.add_str, L3.exd, L3.exd0, L3.exd1, L3.exd2, L3.exd3, L3.exd4, L3.min_int, L3.min_str, L3.len_str, L3.len_lst, L3.len_tup, sl_len, Nat.sub_self, List.drop_zero]
      exact rtE q)
structure Nm (k : Nat) (z : Str) : Prop where
  ex : ∃ (c : Nat) (mid : List Nat) (e : Nat), z.cps.toList = c :: (mid ++ [e]) ∧ ((∀ x ∈ mid, x < 200) ∧ mid.length ≤ 7) ∧ ((c = 109 ∧ e = 49 + k) ∨ (c = 101 ∧ e = 49 + k) ∨ (65 ≤ c ∧ c ≤ 90 ∧ e = 48 + k))
theorem Nm.inj {j k : Nat} {z : Str} (h : Nm j z) (h' : Nm k z) : j = k := by
  obtain ⟨c, mid, e, h1, _, h3⟩ := h.ex
  obtain ⟨c', mid', e', h1', _, h3'⟩ := h'.ex
  rw [h1] at h1'
  have h4 := List.cons.inj h1'
  have h5 := List.append_inj' h4.2 rfl
  have h6 : e = e' := by simpa using h5.2
  have h7 := h4.1
  omega
theorem Nm.ok {k : Nat} {z : Str} (h : Nm k z) (hk : k ≤ 5) : PyData.strOk z = true := by
  obtain ⟨c, mid, e, h1, h2, h3⟩ := h.ex
  unfold PyData.strOk
  rw [← Array.all_toList, List.all_eq_true, h1]
  intro x hx
  refine decide_eq_true ?_
  rcases List.mem_cons.mp hx with rfl | hx
  · omega
  · rcases List.mem_append.mp hx with hx | hx
    · have := h2.1 x hx
      omega
    · have : x = e := by simpa using hx
      omega
theorem Nm.len {k : Nat} {z : Str} (h : Nm k z) : z.length ≤ 10 := by
  obtain ⟨c, mid, e, h1, h2, h3⟩ := h.ex
  have e1 : z.length = z.cps.toList.length := Array.length_toList.symm
  rw [e1, h1]
  simp
  omega
theorem Nm.q9 {k : Nat} {z : Str} (h : Nm k z) (hk : k ≤ 5) : z ≠ Str.ofString "Q9" := fun e => by
  obtain ⟨c, mid, e', h1, h2, h3⟩ := h.ex
  rw [e] at h1
  have h1 : [81, 57] = c :: (mid ++ [e']) := h1
  have h4 := List.cons.inj h1
  have h5 : ([] : List Nat) ++ [57] = mid ++ [e'] := h4.2
  have h6 := List.append_inj' h5 rfl
  have h7 : 57 = e' := by simpa using h6.2
  have h8 := h4.1
  omega
theorem dig : ∀ k : Nat, k < 6 → (Str.ofString (toString ((k : Int) + 1))).cps.toList = [49 + k] := by decide +kernel
theorem dig0 : ∀ k : Nat, k < 6 → (Str.ofString (toString (k : Int))).cps.toList = [48 + k] := by decide +kernel
theorem digl : ∀ k : Nat, k < 6 → ((k : Int) + 1).natAbs.log2 < 1920 ∧ k.log2 < 1920 ∧ (Str.ofString (toString ((k : Int) + 1))).length = 1 ∧ (Str.ofString (toString (k : Int))).length = 1 := by decide +kernel
theorem low : ∀ n : Nat, n < 26 → atI (Str.ofString "abcdefghijklmnopqrstuvwxyz").cps.toList (n : Int) = some (97 + n) := by decide +kernel
theorem upp : ∀ n : Nat, n < 26 → atI (Str.ofString "ABCDEFGHIJKLMNOPQRSTUVWXYZ").cps.toList (n : Int) = some (65 + n) := by decide +kernel
theorem app_cps (a b : Str) : (a ++ b).cps.toList = a.cps.toList ++ b.cps.toList := by
  show (a.cps ++ b.cps).toList = _
  exact Array.toList_append
theorem str_len (a : Str) : a.length = a.cps.toList.length := Array.length_toList.symm
def one (c : Nat) : Str := ⟨#[c]⟩
theorem joinL_ones : ∀ cs : List Nat, TL.joinL [] (cs.map fun c => [c]) = cs
  | [] => rfl
  | [c] => rfl
  | c :: c' :: cs => congrArg (c :: ·) (joinL_ones (c' :: cs))
theorem join_ones (cs : List Nat) : (Txt.join (Str.ofString "") (cs.map one)).cps.toList = cs := by
  have h := SX.join_S [] (cs.map fun c => [c])
  rw [joinL_ones, List.map_map] at h
  exact congrArg (fun x : Str => x.cps.toList) h
theorem srt_of {ys : List Str} (so : sortedS ys = true) (nd : ys.Nodup) : Srt ys := by
  have go : ∀ (r : List Str) (p : Str), risingS p r = true → (p :: r).Nodup → (p :: r).Pairwise fun a b => L3M.ltS a b = true := by
    intro r
    induction r with
    | nil => intro p _ _; exact List.pairwise_singleton _ _
    | cons x r ih =>
      intro p h n
      have h : (!ltCps x.cps.toList p.cps.toList && risingS x r) = true := h
      rw [Bool.and_eq_true] at h
      have n' := List.nodup_cons.mp n
      have t := ih x h.2 n'.2
      have px : L3M.ltS p x = true := by
        have h1 : ltCps x.cps.toList p.cps.toList = false := by simpa using h.1
        rw [ltCps_eq] at h1
        rcases L3M.ltS_le (a := p) (b := x) h1 with k | k
        · exact k
        · exact absurd (by rw [k]; exact List.mem_cons_self ..) n'.1
      refine List.pairwise_cons.mpr ⟨fun y hy => ?_, t⟩
      rcases List.mem_cons.mp hy with rfl | hy
      · exact px
      · exact L3M.ltS_trans px ((List.pairwise_cons.mp t).1 y hy)
  cases ys with
  | nil => exact List.Pairwise.nil
  | cons p r => exact go r p so nd
theorem nf_nodup {zs : List Str} (h : ∀ i x, zs[i]? = some x → Nm i x) : zs.Nodup := by
  refine List.pairwise_iff_getElem.mpr fun i j hi hj hij e => ?_
  have h1 := h i _ (List.getElem?_eq_getElem hi)
  have h2 := h j _ (List.getElem?_eq_getElem hj)
  rw [← e] at h2
  have := h1.inj h2
  omega
def S_nm : WF := fun us μ Q => ∃ (h : Addr) (m : Nat), us = [.r h, .d (.int (m : Int))] ∧ μ h = some .hand ∧ m ≤ 5 ∧ ∀ ys : List Str, ys.length = m → Srt ys → (∀ y ∈ ys, PyData.strOk y = true ∧ y.length ≤ 10) → Str.ofString "Q9" ∉ ys → Q (.d (.list (sl ys))) μ
theorem names_ok (D : Dn K mg "_law_switch_names" s_l_switch_names) (D1 : Dn K mg "_law_take" s_l_take) (D2 : Dn K mg "_law_stirred" s_l_stirred) (m1 : mg "int" = none) (m2 : mg "len" = none) (m4 : mg "range" = none) (m5 : mg "str" = none) (m6 : mg "sorted" = none) : C8.Cal P w K mg base 3 "_law_switch_names" (sp3 K S_nm) [] :=
  cal_l_switch_names D (c_l_take := take_ok D1 D2 m1 m2) (h_l_take := Nat.le_refl _) (m_range := m4) (m_str := m5) (m_sorted := m6) (len := fun us μ Q ⟨_, _, e, _⟩ => by rw [e]; rfl) (h := fun us μ Q ⟨h, m, e, hh, hm, q⟩ => by
    subst e
    have big : 1000 < sizeLine := by decide
    simp [wSeq, wIfS, wRet, wRetN, wNext, wDrop, wAsg, wAug, wBreak, wCont, wV, wC, wB, L3.wTru, L3.wNot, wAnd, wOr, wAndV, wOrV, wNotV, L3.wIf, wNeg, wOp, wCall, wQ, wML, wNil, wCons, wTup, wLst, wLstM, wIsi, wSl, wPart, wNoPart, wMinD, wJoin, wFrz, gN, sIx, sIs, sIsN, sI, sI0, truU, tyOk, tyU, isTruth, L3.isNon, itemsU, listU, ixU, qInt, qAbs, qStr, L3.max_int, start3, L3.kk_nb, L3.kk_nt, L3.kk_ni, L3.kk_ns, L3.kk_nl, L3.kk_bb, L3.kk_bt, L3.kk_bi, L3.kk_bs, L3.kk_bl, L3.kk_ib, L3.kk_it, L3.kk_ii, L3.kk_is, L3.kk_il, L3.kk_sb, L3.kk_st, L3.kk_si, L3.kk_ss, L3.kk_sl, L3.kk_tb, L3.kk_tt, L3.kk_ti, L3.kk_ts, L3.kk_tl, L3.kk_lb, L3.kk_lt, L3.kk_li, L3.kk_ls, L3.kk_ll, L3.at_0, L3.at_1, L3.at_2, L3.at_3, L3.eqA_int, L3.eqA_str, L3.eqA_bl, L3.lt_int, L3.gt_int, L3.le_int, L3.ge_int, L3.lt_str, L3.gt_str, L3.le_str, L3.ge_str, L3.add_int, L3.add_str, L3.exd, L3.exd0, L3.exd1, L3.exd2, L3.exd3, L3.exd4, L3.min_int, L3.min_str, L3.len_str, L3.len_lst, L3.len_tup, W_l_switch_names, wFor, jRng1]
    refine fun p hp => ⟨by omega, ?_⟩
    have ph : h ≠ p := fun e => by rw [e, hp] at hh; cases hh
    refine forGo_inv (fun j ρ μ' => ∃ (x y z u : Option U) (zs : List Str), ρ = [some (.r h), some (.d (.int (m : Int))), some (.r p), x, y, z, u] ∧ μ' = put μ p (.lst ((sl zs).map U.d)) ∧ zs.length = j ∧ ∀ i x, zs[i]? = some x → Nm i x) ?_ (fun _ _ μ' _ => trivial) (fun j hj ρ μ' N h' hN => ?_) (fun ρ μ' h' => ?_)
    · exact ⟨none, none, none, none, [], rfl, rfl, rfl, fun i x h => by simp at h⟩
    · obtain ⟨x, y, z, u, zs, h1, h2, h3, h4⟩ := h'
      subst h1 h2
      have hj : j < m := by simpa using hj
      rw [rng_get (n := m) (by rw [rng_len]; exact hj)]
      have nx : ∀ (t : Str) (y z u : Option U), Nm j t → mAppend (.r p) [.d (.str t)] (put μ p (.lst ((sl zs).map U.d))) fun _ μ1 => N [some (.r h), some (.d (.int (m : Int))), some (.r p), some (.d (.int (j : Int))), y, z, u] μ1 := fun t y z u ht => by
        refine append_r put_same (by rw [List.length_map, sl_len]; omega) ?_
        rw [put_put]
        refine hN _ _ ⟨_, _, _, _, zs ++ [t], rfl, by simp [sl], by simp [h3], fun i x hx => ?_⟩
        by_cases hi : i < zs.length
        · rw [List.getElem?_append_left hi] at hx
          exact h4 i x hx
        · rw [List.getElem?_append_right (by omega)] at hx
          have hx : [t][i - zs.length]? = some x := hx
          have e : i - zs.length = 0 := by
            have := (List.getElem?_eq_some_iff.mp hx).1
            simp at this
            omega
          rw [e] at hx
          cases hx
          have : i = j := by omega
          subst this
          exact ht
      obtain ⟨l1, l2, l3, l4⟩ := digl j (by omega)
      have d1 := dig j (by omega)
      have d2 := dig0 j (by omega)
      have hh' : put μ p (.lst ((sl zs).map U.d)) h = some .hand := by rw [put_ne ph]; exact hh
      simp [wSeq, wIfS, wRet, wRetN, wNext, wDrop, wAsg, wAug, wBreak, wCont, wV, wC, wB, L3.wTru, L3.wNot, wAnd, wOr, wAndV, wOrV, wNotV, L3.wIf, wNeg, wOp, wCall, wQ, wML, wNil, wCons, wTup, wLst, wLstM, wIsi, wSl, wPart, wNoPart, wMinD, wJoin, wFrz, gN, sIx, sIs, sIsN, sI, sI0, truU, tyOk, tyU, isTruth, L3.isNon, itemsU, listU, ixU, qInt, qAbs, qStr, L3.max_int, start3, L3.kk_nb, L3.kk_nt, L3.kk_ni, L3.kk_ns, L3.kk_nl, L3.kk_bb, L3.kk_bt, L3.kk_bi, L3.kk_bs, L3.kk_bl, L3.kk_ib, L3.kk_it, L3.kk_ii, L3.kk_is, L3.kk_il, L3.kk_sb, L3.kk_st, L3.kk_si, L3.kk_ss, L3.kk_sl, L3.kk_tb, L3.kk_tt, L3.kk_ti, L3.kk_ts, L3.kk_tl, L3.kk_lb, L3.kk_lt, L3.kk_li, L3.kk_ls, L3.kk_ll, L3.at_0, L3.at_1, L3.at_2, L3.at_3, L3.eqA_int, L3.eqA_str, L3.eqA_bl, L3.lt_int, L3.gt_int, L3.le_int, L3.ge_int, L3.lt_str, L3.gt_str, L3.le_str, L3.ge_str, L3.add_int, L3.add_str, L3.exd, L3.exd0, L3.exd1, L3.exd2, L3.exd3, L3.exd4, L3.min_int, L3.min_str, L3.len_str, L3.len_lst, L3.len_tup, wLc, jRng1, qStr]
      refine ⟨h, 4, rfl, hh', by omega, by omega, fun t t1 t2 => ?_⟩
      simp [wSeq, wIfS, wRet, wRetN, wNext, wDrop, wAsg, wAug, wBreak, wCont, wV, wC, wB, L3.wTru, L3.wNot, wAnd, wOr, wAndV, wOrV, wNotV, L3.wIf, wNeg, wOp, wCall, wQ, wML, wNil, wCons, wTup, wLst, wLstM, wIsi, wSl, wPart, wNoPart, wMinD, wJoin, wFrz, gN, sIx, sIs, sIsN, sI, sI0, truU, tyOk, tyU, isTruth, L3.isNon, itemsU, listU, ixU, qInt, qAbs, qStr, L3.max_int, start3, L3.kk_nb, L3.kk_nt, L3.kk_ni, L3.kk_ns, L3.kk_nl, L3.kk_bb, L3.kk_bt, L3.kk_bi, L3.kk_bs, L3.kk_bl, L3.kk_ib, L3.kk_it, L3.kk_ii, L3.kk_is, L3.kk_il, L3.kk_sb, L3.kk_st, L3.kk_si, L3.kk_ss, L3.kk_sl, L3.kk_tb, L3.kk_tt, L3.kk_ti, L3.kk_ts, L3.kk_tl, L3.kk_lb, L3.kk_lt, L3.kk_li, L3.kk_ls, L3.kk_ll, L3.at_0, L3.at_1, L3.at_2, L3.at_3, L3.eqA_int, L3.eqA_str, L3.eqA_bl, L3.lt_int, L3.gt_int, L3.le_int, L3.ge_int, L3.lt_str, L3.gt_str, L3.le_str, L3.ge_str, L3.add_int, L3.add_str, L3.exd, L3.exd0, L3.exd1, L3.exd2, L3.exd3, L3.exd4, L3.min_int, L3.min_str, L3.len_str, L3.len_lst, L3.len_tup]
      by_cases c0 : t = 0
      · refine .inr ⟨c0, isL_r put_same, l1, ?_, nx _ _ _ _ ⟨109, [], 49 + j, ?_, ⟨fun x hx => (nomatch hx), Nat.zero_le _⟩, by omega⟩⟩
        · show (Str.ofString "m").length + (Str.ofString (toString ((j : Int) + 1))).length ≤ sizeLine
          rw [l3]
          decide
        · rw [app_cps]
          show [109] ++ (Str.ofString (toString ((j : Int) + 1))).cps.toList = _
          rw [d1]
          rfl
      · refine .inl ⟨c0, ?_⟩
        by_cases c1 : t = 1
        · refine .inr ⟨c1, isL_r put_same, l1, ?_, nx _ _ _ _ ⟨101, [], 49 + j, ?_, ⟨fun x hx => (nomatch hx), Nat.zero_le _⟩, by omega⟩⟩
          · show (Str.ofString "e").length + (Str.ofString (toString ((j : Int) + 1))).length ≤ sizeLine
            rw [l3]
            decide
          · rw [app_cps]
            show [101] ++ (Str.ofString (toString ((j : Int) + 1))).cps.toList = _
            rw [d1]
            rfl
        · refine .inl ⟨c1, h, 7, rfl, hh', by omega, by omega, fun n n1 n2 => ⟨n, rfl, by omega, by omega, ?_⟩⟩
          obtain ⟨n, rfl⟩ := Int.eq_ofNat_of_zero_le n1
          refine lcGo_inv (fun i acc μ' => ∃ cs : List Nat, acc = (sl (cs.map one)).map U.d ∧ cs.length = i ∧ (∀ x ∈ cs, x < 200) ∧ μ' = put μ p (.lst ((sl zs).map U.d))) ⟨[], rfl, rfl, fun x hx => (nomatch hx), rfl⟩ (fun _ _ _ _ => trivial) (fun i hi acc μ' N' h' hN' => ?_) (fun acc μ' h' => ?_)
          · obtain ⟨cs, k1, k2, k3, k4⟩ := h'
            subst k1 k4
            have hi : i < n := by simpa using hi
            simp [wSeq, wIfS, wRet, wRetN, wNext, wDrop, wAsg, wAug, wBreak, wCont, wV, wC, wB, L3.wTru, L3.wNot, wAnd, wOr, wAndV, wOrV, wNotV, L3.wIf, wNeg, wOp, wCall, wQ, wML, wNil, wCons, wTup, wLst, wLstM, wIsi, wSl, wPart, wNoPart, wMinD, wJoin, wFrz, gN, sIx, sIs, sIsN, sI, sI0, truU, tyOk, tyU, isTruth, L3.isNon, itemsU, listU, ixU, qInt, qAbs, qStr, L3.max_int, start3, L3.kk_nb, L3.kk_nt, L3.kk_ni, L3.kk_ns, L3.kk_nl, L3.kk_bb, L3.kk_bt, L3.kk_bi, L3.kk_bs, L3.kk_bl, L3.kk_ib, L3.kk_it, L3.kk_ii, L3.kk_is, L3.kk_il, L3.kk_sb, L3.kk_st, L3.kk_si, L3.kk_ss, L3.kk_sl, L3.kk_tb, L3.kk_tt, L3.kk_ti, L3.kk_ts, L3.kk_tl, L3.kk_lb, L3.kk_lt, L3.kk_li, L3.kk_ls, L3.kk_ll, L3.at_0, L3.at_1, L3.at_2, L3.at_3, L3.eqA_int, L3.eqA_str, L3.eqA_bl, L3.lt_int, L3.gt_int, L3.le_int, L3.ge_int, L3.lt_str, L3.gt_str, L3.le_str, L3.ge_str, L3.add_int, L3.add_str, L3.exd, L3.exd0, L3.exd1, L3.exd2, L3.exd3, L3.exd4, L3.min_int, L3.min_str, L3.len_str, L3.len_lst, L3.len_tup, wipeR, wYes]
            refine ⟨h, 26, rfl, hh', by omega, by omega, fun v v1 v2 => ?_⟩
            obtain ⟨v, rfl⟩ := Int.eq_ofNat_of_zero_le v1
            have lo := low v (by omega)
            refine ⟨v, rfl, _, ⟨by decide, _, lo, rfl⟩, by rw [sl_len, List.length_map]; omega, hN' _ _ ⟨cs ++ [97 + v], by simp [sl, one], by simp [k2], fun x hx => ?_, rfl⟩⟩
            rcases List.mem_append.mp hx with hx | hx
            · exact k3 x hx
            · have : x = 97 + v := by simpa using hx
              omega
          · obtain ⟨cs, k1, k2, k3, k4⟩ := h'
            subst k1 k4
            rw [show (List.map (fun i : Nat => U.d (PyData.int (i : Int))) (List.range ((n : Int)).toNat)).length = n from rng_len] at k2
            have jl := join_ones cs
            have jn : (Txt.join (Str.ofString "") (cs.map one)).length = cs.length := by rw [str_len, jl]
            refine ⟨_, rfl, isL_r put_same, h, 26, rfl, hh', by omega, by omega, fun v v1 v2 => ?_⟩
            obtain ⟨v, rfl⟩ := Int.eq_ofNat_of_zero_le v1
            have up := upp v (by omega)
            refine ⟨v, rfl, _, ⟨by decide, _, up, rfl⟩, cs.map one, by simp [sl], ?_, ?_⟩
            · have e1 : ((cs.map one).map (·.length)).sum = cs.length := by
                clear k3 jl jn k2
                induction cs with
                | nil => rfl
                | cons c cs ih => 
                  simp only [List.map_cons, List.sum_cons, List.length_cons, ih]
                  show 1 + _ = _
                  omega
              have e2 : (Str.ofString "").length = 0 := rfl
              rw [e1, e2]
              omega
            · simp [wSeq, wIfS, wRet, wRetN, wNext, wDrop, wAsg, wAug, wBreak, wCont, wV, wC, wB, L3.wTru, L3.wNot, wAnd, wOr, wAndV, wOrV, wNotV, L3.wIf, wNeg, wOp, wCall, wQ, wML, wNil, wCons, wTup, wLst, wLstM, wIsi, wSl, wPart, wNoPart, wMinD, wJoin, wFrz, gN, sIx, sIs, sIsN, sI, sI0, truU, tyOk, tyU, isTruth, L3.isNon, itemsU, listU, ixU, qInt, qAbs, qStr, L3.max_int, start3, L3.kk_nb, L3.kk_nt, L3.kk_ni, L3.kk_ns, L3.kk_nl, L3.kk_bb, L3.kk_bt, L3.kk_bi, L3.kk_bs, L3.kk_bl, L3.kk_ib, L3.kk_it, L3.kk_ii, L3.kk_is, L3.kk_il, L3.kk_sb, L3.kk_st, L3.kk_si, L3.kk_ss, L3.kk_sl, L3.kk_tb, L3.kk_tt, L3.kk_ti, L3.kk_ts, L3.kk_tl, L3.kk_lb, L3.kk_lt, L3.kk_li, L3.kk_ls, L3.kk_ll, L3.at_0, L3.at_1, L3.at_2, L3.at_3, L3.eqA_int, L3.eqA_str, L3.eqA_bl, L3.lt_int, L3.gt_int, L3.le_int, L3.ge_int, L3.lt_str, L3.gt_str, L3.le_str, L3.ge_str, L3.add_int, L3.add_str, L3.exd, L3.exd0, L3.exd1, L3.exd2, L3.exd3, L3.exd4, L3.min_int, L3.min_str, L3.len_str, L3.len_lst, L3.len_tup]
              refine ⟨?_, l2, ?_, nx _ _ _ _ ⟨65 + v, cs, 48 + j, ?_, ⟨k3, by omega⟩, by omega⟩⟩
              · rw [jn]
                show 1 + cs.length ≤ sizeLine
                omega
              · rw [str_len, app_cps, jl]
                show ([65 + v] ++ cs).length + (Str.ofString (toString (j : Int))).length ≤ sizeLine
                rw [l4, List.length_append]
                show 1 + cs.length + 1 ≤ sizeLine
                omega
              · rw [app_cps, app_cps, jl]
                show ([65 + v] ++ cs) ++ (Str.ofString (toString (j : Int))).cps.toList = _
                rw [d2]
                rfl
    · obtain ⟨x, y, z, u, zs, h1, h2, h3, h4⟩ := h'
      subst h1 h2
      rw [rng_len] at h3
      simp [wSeq, wIfS, wRet, wRetN, wNext, wDrop, wAsg, wAug, wBreak, wCont, wV, wC, wB, L3.wTru, L3.wNot, wAnd, wOr, wAndV, wOrV, wNotV, L3.wIf, wNeg, wOp, wCall, wQ, wML, wNil, wCons, wTup, wLst, wLstM, wIsi, wSl, wPart, wNoPart, wMinD, wJoin, wFrz, gN, sIx, sIs, sIsN, sI, sI0, truU, tyOk, tyU, isTruth, L3.isNon, itemsU, listU, ixU, qInt, qAbs, qStr, L3.max_int, start3, L3.kk_nb, L3.kk_nt, L3.kk_ni, L3.kk_ns, L3.kk_nl, L3.kk_bb, L3.kk_bt, L3.kk_bi, L3.kk_bs, L3.kk_bl, L3.kk_ib, L3.kk_it, L3.kk_ii, L3.kk_is, L3.kk_il, L3.kk_sb, L3.kk_st, L3.kk_si, L3.kk_ss, L3.kk_sl, L3.kk_tb, L3.kk_tt, L3.kk_ti, L3.kk_ts, L3.kk_tl, L3.kk_lb, L3.kk_lt, L3.kk_li, L3.kk_ls, L3.kk_ll, L3.at_0, L3.at_1, L3.at_2, L3.at_3, L3.eqA_int, L3.eqA_str, L3.eqA_bl, L3.lt_int, L3.gt_int, L3.le_int, L3.ge_int, L3.lt_str, L3.gt_str, L3.le_str, L3.ge_str, L3.add_int, L3.add_str, L3.exd, L3.exd0, L3.exd1, L3.exd2, L3.exd3, L3.exd4, L3.min_int, L3.min_str, L3.len_str, L3.len_lst, L3.len_tup]
      have e : isDct (put μ p (.lst ((sl zs).map U.d))) (U.r p) = false := by
        show (match put μ p (.lst ((sl zs).map U.d)) p with
          | some (.dct _) => true
          | _ => false) = false
        rw [put_same]
      unfold qSortA
      simp only [e, Bool.false_eq_true, if_false]
      refine ⟨U.r p, zs, rfl, by simp [listU, put_same, sl], by omega, fun ys pm so => rtD p (rtE ?_)⟩
      rw [del_put hp]
      have key : ∀ y ∈ ys, ∃ i, i ≤ 5 ∧ Nm i y := fun y hy => by
        obtain ⟨i, hi⟩ := List.getElem?_of_mem (pm.mem_iff.mp hy)
        have := (List.getElem?_eq_some_iff.mp hi).1
        exact ⟨i, by omega, h4 i y hi⟩
      refine q ys (by rw [pm.length_eq, h3]) (srt_of so (pm.nodup_iff.mpr (nf_nodup h4))) (fun y hy => ?_) fun hq => ?_
      · obtain ⟨i, hi, hn⟩ := key y hy
        exact ⟨hn.ok hi, hn.len⟩
      · obtain ⟨i, hi, hn⟩ := key _ hq
        exact hn.q9 hi rfl)
theorem gd_T : ∀ t : T, gd t.d
  | .lit b => by unfold T.d gd; trivial
  | .nd s a b => by
    have h1 := gd_T a
    have h2 := gd_T b
    unfold T.d gd
    refine ⟨by simp, ?_⟩
    unfold gds gds gds gds
    exact ⟨by unfold gd; trivial, h1, h2, trivial⟩
theorem gds_sl : ∀ xs : List Str, gds (sl xs)
  | [] => by unfold sl gds; trivial
  | x :: xs => by
    show gds (.str x :: sl xs)
    unfold gds
    exact ⟨by unfold gd; trivial, gds_sl xs⟩
theorem depth_sl : ∀ xs : List Str, PyData.depthAll (sl xs) = 0
  | [] => rfl
  | x :: xs => by
    show max (PyData.depth (.str x)) (PyData.depthAll (sl xs)) = 0
    rw [depth_sl xs]
    rfl
theorem srt_ext : ∀ {xs ys : List Str}, Srt xs → Srt ys → (∀ z, z ∈ xs ↔ z ∈ ys) → xs = ys
  | [], [], _, _, _ => rfl
  | [], y :: ys, _, _, h => absurd ((h y).mpr (List.mem_cons_self ..)) (by simp)
  | x :: xs, [], _, _, h => absurd ((h x).mp (List.mem_cons_self ..)) (by simp)
  | x :: xs, y :: ys, h1, h2, h => by
    have k1 := List.pairwise_cons.mp h1
    have k2 := List.pairwise_cons.mp h2
    have e : x = y := by
      rcases List.mem_cons.mp ((h x).mp (List.mem_cons_self ..)) with e | m
      · exact e
      · rcases List.mem_cons.mp ((h y).mpr (List.mem_cons_self ..)) with e | m'
        · exact e.symm
        · have a := k2.1 x m
          rw [L3M.ltS_asymm (k1.1 y m')] at a
          cases a
    subst e
    rw [srt_ext k1.2 k2.2 fun z => ?_]
    have hz := h z
    simp only [List.mem_cons] at hz
    by_cases e : z = x
    · subst e
      exact ⟨fun m => absurd (k1.1 z m) (by rw [L3M.ltS_irrefl]; exact Bool.false_ne_true), fun m => absurd (k2.1 z m) (by rw [L3M.ltS_irrefl]; exact Bool.false_ne_true)⟩
    · simpa [e] using hz
theorem sets_mem : ∀ {xs : List Str} {r : List Str}, r ∈ sets xs → ∀ z ∈ r, z ∈ xs
  | [], r, h, z, hz => by
    have h : r = [] := by simpa [sets] using h
    subst h
    cases hz
  | x :: xs, r, h, z, hz => by
    rcases List.mem_append.mp h with h | h
    · exact List.mem_cons_of_mem _ (sets_mem h z hz)
    · obtain ⟨t, h1, rfl⟩ := List.mem_map.mp h
      rcases List.mem_cons.mp hz with rfl | hz
      · exact List.mem_cons_self ..
      · exact List.mem_cons_of_mem _ (sets_mem h1 z hz)
theorem sets_idx : ∀ {names : List Str} {k : Nat} {r : List Str}, Srt names → (sets names)[k]? = some r → idx (names.map fun s => decide (s ∈ r)) = k
  | [], k, r, _, h => by
    have := (List.getElem?_eq_some_iff.mp h).1
    have : k = 0 := by simpa [sets] using this
    subst this
    rfl
  | x :: xs, k, r, hs, h => by
    have hs := List.pairwise_cons.mp hs
    have h : (sets xs ++ (sets xs).map fun r => x :: r)[k]? = some r := h
    show (if decide (x ∈ r) = true then 2 ^ (xs.map _).length else 0) + idx (xs.map fun s => decide (s ∈ r)) = k
    rw [List.length_map]
    by_cases hk : k < (sets xs).length
    · rw [List.getElem?_append_left hk] at h
      have hx : x ∉ r := fun m => ltS_no (hs.1 x (sets_mem (List.mem_of_getElem? h) x m))
      rw [if_neg (by simpa using hx), Nat.zero_add, sets_idx hs.2 h]
    · rw [List.getElem?_append_right (by omega), List.getElem?_map] at h
      cases e : (sets xs)[k - (sets xs).length]? with
      | none => rw [e] at h; cases h
      | some t =>
        rw [e] at h
        cases h
        have ih := sets_idx hs.2 e
        rw [if_pos (by simp)]
        have em : (xs.map fun s => decide (s ∈ x :: t)) = xs.map fun s => decide (s ∈ t) := List.map_congr_left fun y hy => by
          have ne : y ≠ x := fun e => ltS_no (hs.1 x (e ▸ hy))
          simp [ne]
        rw [em, ih, ← sets_len]
        omega
where ltS_no {x : Str} (h : L3M.ltS x x = true) : False := by rw [L3M.ltS_irrefl] at h; cases h
theorem cut_sl {xs : List Str} {lo hi : Option Int} : cutL (sl xs) lo hi = sl (cutL xs lo hi) := by
  unfold cutL sl
  rw [List.length_map, ← List.map_drop, ← List.map_take]
theorem cut_sub {xs : List Str} {lo hi : Option Int} {z : Str} (h : z ∈ cutL xs lo hi) : z ∈ xs := by
  unfold cutL at h
  exact List.mem_of_mem_drop (List.mem_of_mem_take h)
theorem cut_len {xs : List Str} {lo hi : Option Int} : (cutL xs lo hi).length ≤ xs.length := by
  unfold cutL
  rw [List.length_take, List.length_drop]
  omega
def S_node : WF := fun us μ Q => ∃ (s : Str) (a b : T), us = [.d (.str s), .d a.d, .d b.d] ∧ a.nm ∧ b.nm ∧ a.h ≤ 64 ∧ b.h ≤ 64 ∧ Q (.d (node s a b).d) μ
theorem node_okC (D : Dn K mg "_node" s_p__node) : C8.Cal P w K mg base 1 "_node" (sp3 K S_node) [] :=
  cal_p__node D (fun us μ Q ⟨_, _, _, e, _⟩ => by rw [e]; rfl) fun us μ Q ⟨s, a, b, e, na, nb, ha, hb, q⟩ => by
    subst e
    simp [wSeq, wIfS, wRet, wRetN, wNext, wDrop, wAsg, wAug, wBreak, wCont, wV, wC, wB, L3.wTru, L3.wNot, wAnd, wOr, wAndV, wOrV, wNotV, L3.wIf, wNeg, wOp, wCall, wQ, wML, wNil, wCons, wTup, wLst, wLstM, wIsi, wSl, wPart, wNoPart, wMinD, wJoin, wFrz, gN, sIx, sIs, sIsN, sI, sI0, truU, tyOk, tyU, isTruth, L3.isNon, itemsU, listU, ixU, qInt, qAbs, qStr, L3.max_int, start3, L3.kk_nb, L3.kk_nt, L3.kk_ni, L3.kk_ns, L3.kk_nl, L3.kk_bb, L3.kk_bt, L3.kk_bi, L3.kk_bs, L3.kk_bl, L3.kk_ib, L3.kk_it, L3.kk_ii, L3.kk_is, L3.kk_il, L3.kk_sb, L3.kk_st, L3.kk_si, L3.kk_ss, L3.kk_sl, L3.kk_tb, L3.kk_tt, L3.kk_ti, L3.kk_ts, L3.kk_tl, L3.kk_lb, L3.kk_lt, L3.kk_li, L3.kk_ls, L3.kk_ll, L3.at_0, L3.at_1, L3.at_2, L3.at_3, L3.eqA_int, L3.eqA_str, L3.eqA_bl, L3.lt_int, L3.gt_int, L3.le_int, L3.ge_int, L3.lt_str, L3.gt_str, L3.le_str, L3.ge_str, L3.add_int, L3.add_str, L3.exd, L3.exd0, L3.exd1, L3.exd2, L3.exd3, L3.exd4, L3.min_int, L3.min_str, L3.len_str, L3.len_lst, L3.len_tup, W_p__node]
    refine eqA_T na nb ha hb (fun e => ?_) fun e => ?_
    · rw [node_eq e] at q
      exact .inr ⟨rfl, rtE q⟩
    · rw [node_ne e] at q
      exact .inl ⟨rfl, by decide, rtE q⟩
end
end K01

/-! the program: counts, all settings, listed settings -/
namespace K01
open PySem PySem.Spec PyProof.Rows L2 L3 Cn
theorem goG_inv {g : WTg} {t : WGst} {Al : Mu → Prop} {us : List U} {B : GEnd3} {ws : List U} {ρ : Rho} {μ : Mu} (I : Nat → List U → Rho → Mu → Prop) (h0 : I 0 ws ρ μ) (al : ∀ j ws ρ μ, I j ws ρ μ → Al μ)
    (step : ∀ (j : Nat) (hj : j < us.length) (ws : List U) (ρ : Rho) (μ : Mu) (N : List U → Rho → Mu → Prop), I j ws ρ μ → (∀ ws' ρ' μ', I (j + 1) ws' ρ' μ' → N ws' ρ' μ') → g us[j] ρ μ fun ρ1 μ1 => t { B with nx := N, ct := N, bk := B.nx } ws ρ1 μ1)
    (fin : ∀ ws ρ μ, I us.length ws ρ μ → B.nx ws ρ μ) : goG g t Al us B ws ρ μ := by
  have key : ∀ (k j : Nat) (ws : List U) (ρ : Rho) (μ : Mu), us.length - j = k → j ≤ us.length → I j ws ρ μ → goG g t Al (us.drop j) B ws ρ μ := by
    intro k
    induction k with
    | zero =>
      intro j ws ρ μ h1 h2 h3
      have e : j = us.length := by omega
      subst e
      rw [List.drop_length]
      exact ⟨al _ _ _ _ h3, fin _ _ _ h3⟩
    | succ k ih =>
      intro j ws ρ μ h1 h2 h3
      have hj : j < us.length := by omega
      rw [List.drop_eq_getElem_cons hj]
      exact ⟨al _ _ _ _ h3, step j hj ws ρ μ _ h3 fun ws' ρ' μ' h => ih (j + 1) ws' ρ' μ' (by omega) (by omega) h⟩
  have := key us.length 0 ws ρ μ (by omega) (Nat.zero_le _) h0
  rwa [List.drop_zero] at this
/-! ### sets of texts in their order -/
def skeys (xs : List Str) : List Key := xs.map fun x => (Sum.inr x : Key)
theorem skeys_kd {xs : List Str} : (skeys xs).map kd = sl xs := by simp [skeys, sl, kd, List.map_map]
theorem skeys_U {xs : List Str} : ((skeys xs).map fun k => U.d (kd k)) = (sl xs).map U.d := by rw [← skeys_kd, List.map_map]; rfl
theorem sl_alike (l : List Str) : PySem.W.AllAlike (sl l) := fun d hd d' hd' => by
  obtain ⟨x, _, rfl⟩ := List.mem_map.mp hd
  obtain ⟨y, _, rfl⟩ := List.mem_map.mp hd'
  simp [PySem.W.alike]
theorem skeys_one {xs : List Str} : OneKind (skeys xs) := .inr fun k hk => by
  obtain ⟨x, _, rfl⟩ := List.mem_map.mp hk
  exact ⟨x, rfl⟩
theorem srt_nd {xs : List Str} (h : Srt xs) : xs.Nodup := h.imp fun {a b} lt e => by
  rw [e, L3M.ltS_irrefl] at lt
  cases lt
theorem sort_srt {xs : List Str} (h : Srt xs) : sortD (sl xs) = sl xs := by
  have s1 := sortD_perm (sl xs)
  refine uniq_sorted (r := fun x y => PySem.W.dataLe false id x y = true) (fun x hx y hy h1 h2 => le_anti (sl_alike xs x (s1.mem_iff.mp hx) y hy) h1 h2) (List.pairwise_mergeSort le_trans' le_total' _) ?_ s1
  refine List.pairwise_map.mpr (h.imp fun {a b} lt => ?_)
  show (!PySem.W.dataLt (.str b) (.str a)) = true
  rw [PySem.W.dataLt_str]
  have := L3M.ltS_asymm lt
  unfold L3M.ltS at this
  rw [this]
  rfl
theorem uniq_perm {zs ms : List Str} (h : Srt ms) (m : ∀ k, k ∈ zs ↔ k ∈ ms) : (uniqK (skeys zs)).Perm (skeys ms) := by
  obtain ⟨f1, f2, f3⟩ := uniqK_facts (skeys zs)
  refine (List.perm_ext_iff_of_nodup f1 ?_).mpr fun j => ?_
  · exact List.pairwise_map.mpr ((srt_nd h).imp fun {a b} ne q => ne (Sum.inr.inj q))
  · rw [f2]
    unfold skeys
    rw [List.mem_map, List.mem_map]
    exact ⟨fun ⟨k, hk, q⟩ => ⟨k, (m k).mp hk, q⟩, fun ⟨k, hk, q⟩ => ⟨k, (m k).mpr hk, q⟩⟩
theorem sort_uniqS {zs ms : List Str} (h : Srt ms) (m : ∀ k, k ∈ zs ↔ k ∈ ms) : sortD ((uniqK (skeys zs)).map kd) = sl ms := by
  have p := (uniq_perm h m).map kd
  rw [skeys_kd] at p
  rw [← sort_srt h]
  exact sortD_eq (fun d hd d' hd' => sl_alike ms d (p.mem_iff.mp hd) d' (p.mem_iff.mp hd')) p
theorem uniq_len {zs ms : List Str} (h : Srt ms) (m : ∀ k, k ∈ zs ↔ k ∈ ms) : (uniqK (skeys zs)).length = ms.length := by
  rw [(uniq_perm h m).length_eq]
  exact List.length_map _
/-- texts given as a list or a tuple -/
def SqS (v : PyData) (zs : List Str) : Prop := v = .list (sl zs) ∨ v = .tuple (sl zs)
theorem SqS.items {v : PyData} {zs : List Str} {μ : Mu} (h : SqS v zs) : itemsU μ (.d v) = some ((skeys zs).map fun k => U.d (kd k)) := by
  rw [skeys_U]
  rcases h with rfl | rfl <;> rfl
/-! ### counts -/
def cnt : T → Nat → Nat
  | .lit b, f => if b = true then 2 ^ f else 0
  | .nd _ a b, f => cnt a (f - 1) + cnt b (f - 1)
section
variable {P : Program} {w : World} {K : Fg} {mg : Str → Option Value} {base : Heap}
theorem pow_ok {f : Nat} (h : f ≤ 60) : CPow 1 (f : Int) := by
  have : ∀ f ≤ 60, (fun j : Int => CPow 1 j) ((f : Nat) : Int) := by unfold CPow; decide +kernel
  exact this f h
def S_ct (n : Nat) : WF := fun us μ Q => ∃ (c : T) (f : Nat), us = [.d c.d, .d (.int (f : Int))] ∧ c.h ≤ n ∧ c.h ≤ f ∧ f ≤ 60 ∧ Q (.d (.int (cnt c f : Int))) μ
theorem ct_ok (D : Dn K mg "_count" s_p__count) (m1 : mg "isinstance" = none) (m2 : mg "tuple" = none) : ∀ n, C8.Cal P w K mg base (n + 1) "_count" (sp3 K (S_ct n)) []
  | 0 => cal_p__count D (c_p__count := z_p__count D) (h_p__count := Nat.le_refl _) (m_isinstance := m1) (m_tuple := m2) (len := fun us μ Q ⟨_, _, e, _⟩ => by rw [e]; rfl) (h := fun us μ Q ⟨c, f, e, h1, h2, h3, q⟩ => by
    subst e
    cases c with
    | nd s a b => unfold T.h at h1; omega
    | lit b =>
      simp [wSeq, wIfS, wRet, wRetN, wNext, wDrop, wAsg, wAug, wBreak, wCont, wV, wC, wB, L3.wTru, L3.wNot, wAnd, wOr, wAndV, wOrV, wNotV, L3.wIf, wNeg, wOp, wCall, wQ, wML, wNil, wCons, wTup, wLst, wLstM, wIsi, wSl, wPart, wNoPart, wMinD, wJoin, wFrz, gN, sIx, sIs, sIsN, sI, sI0, truU, tyOk, tyU, isTruth, L3.isNon, itemsU, listU, ixU, qInt, qAbs, qStr, L3.max_int, start3, L3.kk_nb, L3.kk_nt, L3.kk_ni, L3.kk_ns, L3.kk_nl, L3.kk_bb, L3.kk_bt, L3.kk_bi, L3.kk_bs, L3.kk_bl, L3.kk_ib, L3.kk_it, L3.kk_ii, L3.kk_is, L3.kk_il, L3.kk_sb, L3.kk_st, L3.kk_si, L3.kk_ss, L3.kk_sl, L3.kk_tb, L3.kk_tt, L3.kk_ti, L3.kk_ts, L3.kk_tl, L3.kk_lb, L3.kk_lt, L3.kk_li, L3.kk_ls, L3.kk_ll, L3.at_0, L3.at_1, L3.at_2, L3.at_3, L3.eqA_int, L3.eqA_str, L3.eqA_bl, L3.lt_int, L3.gt_int, L3.le_int, L3.ge_int, L3.lt_str, L3.gt_str, L3.le_str, L3.ge_str, L3.add_int, L3.add_str, L3.exd, L3.exd0, L3.exd1, L3.exd2, L3.exd3, L3.exd4, L3.min_int, L3.min_str, L3.len_str, L3.len_lst, L3.len_tup, W_p__count, T.d]
      cases b with
      | true => exact .inr ⟨rfl, pow_ok h3, rtE (by simpa [cnt] using q)⟩
      | false => exact .inl ⟨rfl, rtE (by simpa [cnt] using q)⟩)
  | n + 1 => cal_p__count D (c_p__count := ct_ok D m1 m2 n) (h_p__count := Nat.le_refl _) (m_isinstance := m1) (m_tuple := m2) (len := fun us μ Q ⟨_, _, e, _⟩ => by rw [e]; rfl) (h := fun us μ Q ⟨c, f, e, h1, h2, h3, q⟩ => by
    subst e
    cases c with
    | lit b =>
      simp [wSeq, wIfS, wRet, wRetN, wNext, wDrop, wAsg, wAug, wBreak, wCont, wV, wC, wB, L3.wTru, L3.wNot, wAnd, wOr, wAndV, wOrV, wNotV, L3.wIf, wNeg, wOp, wCall, wQ, wML, wNil, wCons, wTup, wLst, wLstM, wIsi, wSl, wPart, wNoPart, wMinD, wJoin, wFrz, gN, sIx, sIs, sIsN, sI, sI0, truU, tyOk, tyU, isTruth, L3.isNon, itemsU, listU, ixU, qInt, qAbs, qStr, L3.max_int, start3, L3.kk_nb, L3.kk_nt, L3.kk_ni, L3.kk_ns, L3.kk_nl, L3.kk_bb, L3.kk_bt, L3.kk_bi, L3.kk_bs, L3.kk_bl, L3.kk_ib, L3.kk_it, L3.kk_ii, L3.kk_is, L3.kk_il, L3.kk_sb, L3.kk_st, L3.kk_si, L3.kk_ss, L3.kk_sl, L3.kk_tb, L3.kk_tt, L3.kk_ti, L3.kk_ts, L3.kk_tl, L3.kk_lb, L3.kk_lt, L3.kk_li, L3.kk_ls, L3.kk_ll, L3.at_0, L3.at_1, L3.at_2, L3.at_3, L3.eqA_int, L3.eqA_str, L3.eqA_bl, L3.lt_int, L3.gt_int, L3.le_int, L3.ge_int, L3.lt_str, L3.gt_str, L3.le_str, L3.ge_str, L3.add_int, L3.add_str, L3.exd, L3.exd0, L3.exd1, L3.exd2, L3.exd3, L3.exd4, L3.min_int, L3.min_str, L3.len_str, L3.len_lst, L3.len_tup, W_p__count, T.d]
      cases b with
      | true => exact .inr ⟨rfl, pow_ok h3, rtE (by simpa [cnt] using q)⟩
      | false => exact .inl ⟨rfl, rtE (by simpa [cnt] using q)⟩
    | nd s a b =>
      simp [wSeq, wIfS, wRet, wRetN, wNext, wDrop, wAsg, wAug, wBreak, wCont, wV, wC, wB, L3.wTru, L3.wNot, wAnd, wOr, wAndV, wOrV, wNotV, L3.wIf, wNeg, wOp, wCall, wQ, wML, wNil, wCons, wTup, wLst, wLstM, wIsi, wSl, wPart, wNoPart, wMinD, wJoin, wFrz, gN, sIx, sIs, sIsN, sI, sI0, truU, tyOk, tyU, isTruth, L3.isNon, itemsU, listU, ixU, qInt, qAbs, qStr, L3.max_int, start3, L3.kk_nb, L3.kk_nt, L3.kk_ni, L3.kk_ns, L3.kk_nl, L3.kk_bb, L3.kk_bt, L3.kk_bi, L3.kk_bs, L3.kk_bl, L3.kk_ib, L3.kk_it, L3.kk_ii, L3.kk_is, L3.kk_il, L3.kk_sb, L3.kk_st, L3.kk_si, L3.kk_ss, L3.kk_sl, L3.kk_tb, L3.kk_tt, L3.kk_ti, L3.kk_ts, L3.kk_tl, L3.kk_lb, L3.kk_lt, L3.kk_li, L3.kk_ls, L3.kk_ll, L3.at_0, L3.at_1, L3.at_2, L3.at_3, L3.eqA_int, L3.eqA_str, L3.eqA_bl, L3.lt_int, L3.gt_int, L3.le_int, L3.ge_int, L3.lt_str, L3.gt_str, L3.le_str, L3.ge_str, L3.add_int, L3.add_str, L3.exd, L3.exd0, L3.exd1, L3.exd2, L3.exd3, L3.exd4, L3.min_int, L3.min_str, L3.len_str, L3.len_lst, L3.len_tup, W_p__count, T.d]
      unfold T.h at h1 h2
      have ef : (f : Int) - 1 = ((f - 1 : Nat) : Int) := by omega
      rw [ef]
      refine ⟨a, f - 1, rfl, by omega, by omega, by omega, b, f - 1, rfl, by omega, by omega, by omega, ?_⟩
      show sAdd (.d (.int _)) (.d (.int _)) μ (E3 μ Q).rt
      rw [L3.add_int]
      refine rtE ?_
      have e : ((cnt a (f - 1) : Nat) : Int) + ((cnt b (f - 1) : Nat) : Int) = ((cnt (.nd s a b) f : Nat) : Int) := by rw [cnt]; push_cast; rfl
      rw [e]
      exact q)
/-! ### settings by their bits -/
def pick : List Str → Nat → List Str
  | [], _ => []
  | x :: xs, k => (if k / 2 ^ xs.length % 2 = 1 then [x] else []) ++ pick xs k
theorem pick_mod : ∀ {xs : List Str} {k m : Nat}, xs.length ≤ m → pick xs (k % 2 ^ m) = pick xs k
  | [], _, _, _ => rfl
  | x :: xs, k, m, h => by
    have h : xs.length + 1 ≤ m := h
    have e : k % 2 ^ m / 2 ^ xs.length % 2 = k / 2 ^ xs.length % 2 := by
      obtain ⟨d, rfl⟩ : ∃ d, m = xs.length + 1 + d := ⟨m - (xs.length + 1), by omega⟩
      rw [show 2 ^ (xs.length + 1 + d) = 2 ^ xs.length * (2 * 2 ^ d) by rw [Nat.pow_add, Nat.pow_succ, Nat.mul_assoc]]
      rw [Nat.mod_mul_right_div_self, Nat.mod_mul_right_mod]
    rw [pick, pick, e, pick_mod (by omega)]
theorem pick_sets : ∀ {xs : List Str} {k : Nat}, k < 2 ^ xs.length → (sets xs)[k]? = some (pick xs k)
  | [], k, h => by
    have : k = 0 := by simpa using h
    subst this
    rfl
  | x :: xs, k, h => by
    have h : k < 2 ^ (xs.length + 1) := h
    rw [Nat.pow_succ] at h
    have hp : 0 < 2 ^ xs.length := Nat.pow_pos (by decide)
    show (sets xs ++ (sets xs).map fun r => x :: r)[k]? = _
    by_cases hk : k < 2 ^ xs.length
    · rw [List.getElem?_append_left (by rw [sets_len]; exact hk), pick_sets hk, pick, Nat.div_eq_of_lt hk]
      rfl
    · have hk2 : k - 2 ^ xs.length < 2 ^ xs.length := by omega
      have e1 : k / 2 ^ xs.length = 1 := by
        have : k = (k - 2 ^ xs.length) + 2 ^ xs.length := by omega
        rw [this, Nat.add_div_right _ hp, Nat.div_eq_of_lt hk2]
      have e2 : pick xs (k - 2 ^ xs.length) = pick xs k := by
        have := pick_mod (xs := xs) (k := k) (m := xs.length) (Nat.le_refl _)
        rw [← this, show k % 2 ^ xs.length = k - 2 ^ xs.length by rw [Nat.mod_eq_sub_mod (by omega), Nat.mod_eq_of_lt hk2]]
      rw [List.getElem?_append_right (by rw [sets_len]; omega), sets_len, List.getElem?_map, pick_sets hk2, e2, pick, e1]
      rfl
theorem pick_len : ∀ {xs : List Str} {k : Nat}, (pick xs k).length ≤ xs.length
  | [], _ => Nat.le_refl _
  | x :: xs, k => by
    have := pick_len (xs := xs) (k := k)
    rw [pick, List.length_append, List.length_cons]
    split <;> simp <;> omega
theorem sets_pick {xs : List Str} : sets xs = (List.range (2 ^ xs.length)).map (pick xs) := by
  refine List.ext_getElem? fun k => ?_
  by_cases h : k < 2 ^ xs.length
  · rw [pick_sets h, List.getElem?_map, List.getElem?_range h]; rfl
  · rw [List.getElem?_eq_none (by rw [sets_len]; omega), List.getElem?_eq_none (by rw [List.length_map, List.length_range]; omega)]
theorem bit_and : ∀ k < 32, ∀ a < 5, Builtin.bitAnd (((k : Nat) : Int) / 2 ^ (a : Nat)) 1 = ((k / 2 ^ a % 2 : Nat) : Int) := by decide +kernel
theorem two_pow : ∀ n ≤ 5, -4611686018427387904 ≤ (2 : Int) ^ ((n : Nat) : Int).toNat ∧ (2 : Int) ^ ((n : Nat) : Int).toNat < 4611686018427387904 ∧ ((2 : Int) ^ ((n : Nat) : Int).toNat).toNat = 2 ^ n := by decide +kernel
def S_as : WFG := fun us μ Q => ∃ (v : PyData) (zs names : List Str), us = [.d v] ∧ SqS v zs ∧ zs.length ≤ 100 ∧ Srt names ∧ names.length ≤ 5 ∧ (∀ z, z ∈ zs ↔ z ∈ names) ∧ ∀ μ', (∀ a o, μ a = some o → μ' a = some o) → Q ((sets names).map fun r => U.d (.tuple (sl r))) μ'
theorem as_ok (D : Dn K mg "all_settings" s_p_all_settings) (m1 : mg "len" = none) (m2 : mg "range" = none) (m3 : mg "tuple" = none) (m4 : mg "enumerate" = none) (m5 : mg "sorted" = none) (m6 : mg "set" = none) : CalG P w K mg base 1 "all_settings" (spG3 K S_as) :=
  cal_p_all_settings D m1 m2 m3 m4 m5 m6 (len := fun us μ Q ⟨_, _, _, e, _⟩ => by rw [e]; rfl) (h := fun us μ Q ⟨v, zs, names, e, hv, hz, hs, hn, hm, q⟩ => by
    subst e
    unfold W_p_all_settings wGSeq wGPl wGNil
    simp [wSeq, wIfS, wRet, wRetN, wNext, wDrop, wAsg, wAug, wBreak, wCont, wV, wC, wB, L3.wTru, L3.wNot, wAnd, wOr, wAndV, wOrV, wNotV, L3.wIf, wNeg, wOp, wCall, wQ, wML, wNil, wCons, wTup, wLst, wLstM, wIsi, wSl, wPart, wNoPart, wMinD, wJoin, wFrz, gN, sIx, sIs, sIsN, sI, sI0, truU, tyOk, tyU, isTruth, L3.isNon, itemsU, listU, ixU, qInt, qAbs, qStr, L3.max_int, start3, L3.kk_nb, L3.kk_nt, L3.kk_ni, L3.kk_ns, L3.kk_nl, L3.kk_bb, L3.kk_bt, L3.kk_bi, L3.kk_bs, L3.kk_bl, L3.kk_ib, L3.kk_it, L3.kk_ii, L3.kk_is, L3.kk_il, L3.kk_sb, L3.kk_st, L3.kk_si, L3.kk_ss, L3.kk_sl, L3.kk_tb, L3.kk_tt, L3.kk_ti, L3.kk_ts, L3.kk_tl, L3.kk_lb, L3.kk_lt, L3.kk_li, L3.kk_ls, L3.kk_ll, L3.at_0, L3.at_1, L3.at_2, L3.at_3, L3.eqA_int, L3.eqA_str, L3.eqA_bl, L3.lt_int, L3.gt_int, L3.le_int, L3.ge_int, L3.lt_str, L3.gt_str, L3.le_str, L3.ge_str, L3.add_int, L3.add_str, L3.exd, L3.exd0, L3.exd1, L3.exd2, L3.exd3, L3.exd4, L3.min_int, L3.min_str, L3.len_str, L3.len_lst, L3.len_tup]
    refine ⟨_, rfl, skeys zs, hv.items, by simp [skeys]; omega, skeys_one, fun p hp => ?_⟩
    rw [sort_uniqS hs hm]
    have er : ((sl names).map U.d).reverse = (sl names.reverse).map U.d := by simp [sl]
    refine ⟨isL_r put_same, p, _, rfl, rfl, put_same, ?_⟩
    rw [put_put, er]
    simp [wSeq, wIfS, wRet, wRetN, wNext, wDrop, wAsg, wAug, wBreak, wCont, wV, wC, wB, L3.wTru, L3.wNot, wAnd, wOr, wAndV, wOrV, wNotV, L3.wIf, wNeg, wOp, wCall, wQ, wML, wNil, wCons, wTup, wLst, wLstM, wIsi, wSl, wPart, wNoPart, wMinD, wJoin, wFrz, gN, sIx, sIs, sIsN, sI, sI0, truU, tyOk, tyU, isTruth, L3.isNon, itemsU, listU, ixU, qInt, qAbs, qStr, L3.max_int, start3, L3.kk_nb, L3.kk_nt, L3.kk_ni, L3.kk_ns, L3.kk_nl, L3.kk_bb, L3.kk_bt, L3.kk_bi, L3.kk_bs, L3.kk_bl, L3.kk_ib, L3.kk_it, L3.kk_ii, L3.kk_is, L3.kk_il, L3.kk_sb, L3.kk_st, L3.kk_si, L3.kk_ss, L3.kk_sl, L3.kk_tb, L3.kk_tt, L3.kk_ti, L3.kk_ts, L3.kk_tl, L3.kk_lb, L3.kk_lt, L3.kk_li, L3.kk_ls, L3.kk_ll, L3.at_0, L3.at_1, L3.at_2, L3.at_3, L3.eqA_int, L3.eqA_str, L3.eqA_bl, L3.lt_int, L3.gt_int, L3.le_int, L3.ge_int, L3.lt_str, L3.gt_str, L3.le_str, L3.ge_str, L3.add_int, L3.add_str, L3.exd, L3.exd0, L3.exd1, L3.exd2, L3.exd3, L3.exd4, L3.min_int, L3.min_str, L3.len_str, L3.len_lst, L3.len_tup, wGFor, jRng1]
    refine len_r put_same ?_
    have ln : ((sl names.reverse).map U.d).length = names.length := by rw [List.length_map, sl_len, List.length_reverse]
    obtain ⟨b1, b2, b3⟩ := two_pow names.length hn
    refine ⟨(names.length : Int), by rw [ln], pow_ok (by omega), b1, b2, ?_⟩
    rw [b3]
    have rl : ((List.range (2 ^ names.length)).map fun i : Nat => U.d (.int (i : Int))).length = 2 ^ names.length := rng_len
    refine goG_inv (fun j ws ρ μ' => (∃ x2 x3 x4 x5 : Option U, ρ = [some (.d v), some (.r p), x2, x3, x4, x5]) ∧ ws = ((List.range j).map fun k => U.d (.tuple (sl (pick names k)))) ∧ μ' = put μ p (.lst ((sl names.reverse).map U.d))) ⟨⟨_, _, _, _, rfl⟩, rfl, rfl⟩ (fun _ _ _ _ _ => trivial) (fun j hj ws ρ μ' N ⟨⟨x2, x3, x4, x5, e1⟩, e2, e3⟩ hN => ?_) (fun ws ρ μ' ⟨_, e2, e3⟩ => ?_)
    · subst e1 e2 e3
      rw [rl] at hj
      rw [rng_get (n := 2 ^ names.length) (by rw [rl]; exact hj)]
      simp [wSeq, wIfS, wRet, wRetN, wNext, wDrop, wAsg, wAug, wBreak, wCont, wV, wC, wB, L3.wTru, L3.wNot, wAnd, wOr, wAndV, wOrV, wNotV, L3.wIf, wNeg, wOp, wCall, wQ, wML, wNil, wCons, wTup, wLst, wLstM, wIsi, wSl, wPart, wNoPart, wMinD, wJoin, wFrz, gN, sIx, sIs, sIsN, sI, sI0, truU, tyOk, tyU, isTruth, L3.isNon, itemsU, listU, ixU, qInt, qAbs, qStr, L3.max_int, start3, L3.kk_nb, L3.kk_nt, L3.kk_ni, L3.kk_ns, L3.kk_nl, L3.kk_bb, L3.kk_bt, L3.kk_bi, L3.kk_bs, L3.kk_bl, L3.kk_ib, L3.kk_it, L3.kk_ii, L3.kk_is, L3.kk_il, L3.kk_sb, L3.kk_st, L3.kk_si, L3.kk_ss, L3.kk_sl, L3.kk_tb, L3.kk_tt, L3.kk_ti, L3.kk_ts, L3.kk_tl, L3.kk_lb, L3.kk_lt, L3.kk_li, L3.kk_ls, L3.kk_ll, L3.at_0, L3.at_1, L3.at_2, L3.at_3, L3.eqA_int, L3.eqA_str, L3.eqA_bl, L3.lt_int, L3.gt_int, L3.le_int, L3.ge_int, L3.lt_str, L3.gt_str, L3.le_str, L3.ge_str, L3.add_int, L3.add_str, L3.exd, L3.exd0, L3.exd1, L3.exd2, L3.exd3, L3.exd4, L3.min_int, L3.min_str, L3.len_str, L3.len_lst, L3.len_tup, wLc, jEnumA, wGYield]
      have hit : itemsU (put μ p (.lst ((sl names.reverse).map U.d))) (.r p) = some ((sl names.reverse).map U.d) := by simp only [itemsU, put_same]
      refine ⟨sl names.reverse, by simpa only [itemsU] using hit, ?_⟩
      have el : ((enumD (sl names.reverse)).map U.d).length = names.length := by simp [enumD, sl]
      refine lcGo_inv (fun i ys μ'' => μ'' = put μ p (.lst ((sl names.reverse).map U.d)) ∧ ys = (sl (pick (names.drop (names.length - i)) j).reverse).map U.d) ⟨rfl, by simp [pick, sl]⟩ (fun _ _ _ ⟨e, _⟩ => by rw [e]; simp only [put_same]) (fun i hi ys μ'' N' ⟨e1, e2⟩ hN' => ?_) (fun ys μ'' ⟨e1, e2⟩ => ?_)
      · subst e1 e2
        rw [el] at hi
        have hir : i < names.reverse.length := by rw [List.length_reverse]; exact hi
        have hg : ((enumD (sl names.reverse)).map U.d)[i]'(by rw [el]; exact hi) = U.d (.tuple [.int (i : Int), .str names.reverse[i]]) := by simp [enumD, sl]
        rw [hg]
        have hd : names.drop (names.length - (i + 1)) = names.reverse[i] :: names.drop (names.length - i) := by
          have h2 : names.length - (i + 1) < names.length := by omega
          rw [List.drop_eq_getElem_cons h2, List.getElem_reverse]
          congr 2 <;> omega
        have hl : (names.drop (names.length - i)).length = i := by rw [List.length_drop]; omega
        rw [hd, pick, hl] at hN'
        have hb := bit_and j (Nat.lt_of_lt_of_le hj (Nat.le_trans (Nat.pow_le_pow_right (by decide) hn) (by decide))) i (by omega)
        have hp2 := pick_len (xs := names.drop (names.length - i)) (k := j)
        generalize names.reverse[i] = z at *
        generalize pick (names.drop (names.length - i)) j = pk at *
        simp [wSeq, wIfS, wRet, wRetN, wNext, wDrop, wAsg, wAug, wBreak, wCont, wV, wC, wB, L3.wTru, L3.wNot, wAnd, wOr, wAndV, wOrV, wNotV, L3.wIf, wNeg, wOp, wCall, wQ, wML, wNil, wCons, wTup, wLst, wLstM, wIsi, wSl, wPart, wNoPart, wMinD, wJoin, wFrz, gN, sIx, sIs, sIsN, sI, sI0, truU, tyOk, tyU, isTruth, L3.isNon, itemsU, listU, ixU, qInt, qAbs, qStr, L3.max_int, start3, L3.kk_nb, L3.kk_nt, L3.kk_ni, L3.kk_ns, L3.kk_nl, L3.kk_bb, L3.kk_bt, L3.kk_bi, L3.kk_bs, L3.kk_bl, L3.kk_ib, L3.kk_it, L3.kk_ii, L3.kk_is, L3.kk_il, L3.kk_sb, L3.kk_st, L3.kk_si, L3.kk_ss, L3.kk_sl, L3.kk_tb, L3.kk_tt, L3.kk_ti, L3.kk_ts, L3.kk_tl, L3.kk_lb, L3.kk_lt, L3.kk_li, L3.kk_ls, L3.kk_ll, L3.at_0, L3.at_1, L3.at_2, L3.at_3, L3.eqA_int, L3.eqA_str, L3.eqA_bl, L3.lt_int, L3.gt_int, L3.le_int, L3.ge_int, L3.lt_str, L3.gt_str, L3.le_str, L3.ge_str, L3.add_int, L3.add_str, L3.exd, L3.exd0, L3.exd1, L3.exd2, L3.exd3, L3.exd4, L3.min_int, L3.min_str, L3.len_str, L3.len_lst, L3.len_tup, gT_tup, gGo_cons, gGo_nil, wipeR]
        rw [hb]
        have c20 : 20 < sizeLine := by decide
        by_cases hx : j / 2 ^ i % 2 = 1
        · rw [if_pos hx] at hN'
          refine .inr ⟨by rw [hx]; decide, by rw [sl_len, List.length_reverse]; have := List.length_drop (i := names.length - i) (l := names); omega, hN' _ _ ⟨rfl, by simp [sl]⟩⟩
        · rw [if_neg hx] at hN'
          exact .inl ⟨by omega, hN' _ _ ⟨rfl, rfl⟩⟩
      · subst e1 e2
        rw [el, Nat.sub_self, List.drop_zero]
        have hp2 := pick_len (xs := names) (k := j)
        have c33 : 33 < sizeLine := by decide
        have j32 := Nat.lt_of_lt_of_le hj (Nat.le_trans (Nat.pow_le_pow_right (by decide) hn) (by decide) : 2 ^ names.length ≤ 32)
        refine ⟨sl (pick names j).reverse, rfl, by omega, ?_⟩
        simp [wSeq, wIfS, wRet, wRetN, wNext, wDrop, wAsg, wAug, wBreak, wCont, wV, wC, wB, L3.wTru, L3.wNot, wAnd, wOr, wAndV, wOrV, wNotV, L3.wIf, wNeg, wOp, wCall, wQ, wML, wNil, wCons, wTup, wLst, wLstM, wIsi, wSl, wPart, wNoPart, wMinD, wJoin, wFrz, gN, sIx, sIs, sIsN, sI, sI0, truU, tyOk, tyU, isTruth, L3.isNon, itemsU, listU, ixU, qInt, qAbs, qStr, L3.max_int, start3, L3.kk_nb, L3.kk_nt, L3.kk_ni, L3.kk_ns, L3.kk_nl, L3.kk_bb, L3.kk_bt, L3.kk_bi, L3.kk_bs, L3.kk_bl, L3.kk_ib, L3.kk_it, L3.kk_ii, L3.kk_is, L3.kk_il, L3.kk_sb, L3.kk_st, L3.kk_si, L3.kk_ss, L3.kk_sl, L3.kk_tb, L3.kk_tt, L3.kk_ti, L3.kk_ts, L3.kk_tl, L3.kk_lb, L3.kk_lt, L3.kk_li, L3.kk_ls, L3.kk_ll, L3.at_0, L3.at_1, L3.at_2, L3.at_3, L3.eqA_int, L3.eqA_str, L3.eqA_bl, L3.lt_int, L3.gt_int, L3.le_int, L3.ge_int, L3.lt_str, L3.gt_str, L3.le_str, L3.ge_str, L3.add_int, L3.add_str, L3.exd, L3.exd0, L3.exd1, L3.exd2, L3.exd3, L3.exd4, L3.min_int, L3.min_str, L3.len_str, L3.len_lst, L3.len_tup, wRevS]
        have e3 : (sl (pick names j).reverse).reverse = sl (pick names j) := by simp [sl]
        rw [e3]
        refine ⟨_, _, rfl, rfl, hN _ _ _ ⟨⟨_, _, _, _, rfl⟩, ?_, rfl⟩⟩
        rw [List.range_succ, List.map_append]
        rfl
    · subst e2 e3
      rw [rl]
      have := q (put μ p (.lst ((sl names.reverse).map U.d))) fun a o h => by rw [put_ne (fun e => by rw [e, hp] at h; cases h)]; exact h
      rw [sets_pick, List.map_map] at this
      exact this)
/-! ### count_settings -/
def S_cs : WF := fun us μ Q => ∃ (c : T) (v : PyData) (zs names : List Str), us = [.d c.d, .d v] ∧ SqS v zs ∧ zs.length ≤ 100 ∧ Srt names ∧ names.length ≤ 20 ∧ (∀ z, z ∈ zs ↔ z ∈ names) ∧ c.h ≤ names.length ∧ Q (.d (.int (cnt c names.length : Int))) μ
theorem cs_ok (D : Dn K mg "count_settings" s_p_count_settings) (D1 : Dn K mg "_count" s_p__count) (m1 : mg "isinstance" = none) (m2 : mg "tuple" = none) (m3 : mg "len" = none) (m4 : mg "set" = none) : C8.Cal P w K mg base 22 "count_settings" (sp3 K S_cs) [] :=
  cal_p_count_settings D (c_p__count := ct_ok D1 m1 m2 20) (h_p__count := Nat.le_refl _) (m_len := m3) (m_set := m4) (len := fun us μ Q ⟨_, _, _, _, e, _⟩ => by rw [e]; rfl) (h := fun us μ Q ⟨c, v, zs, names, e, hv, hz, hs, hn, hm, hc, q⟩ => by
    subst e
    simp [wSeq, wIfS, wRet, wRetN, wNext, wDrop, wAsg, wAug, wBreak, wCont, wV, wC, wB, L3.wTru, L3.wNot, wAnd, wOr, wAndV, wOrV, wNotV, L3.wIf, wNeg, wOp, wCall, wQ, wML, wNil, wCons, wTup, wLst, wLstM, wIsi, wSl, wPart, wNoPart, wMinD, wJoin, wFrz, gN, sIx, sIs, sIsN, sI, sI0, truU, tyOk, tyU, isTruth, L3.isNon, itemsU, listU, ixU, qInt, qAbs, qStr, L3.max_int, start3, L3.kk_nb, L3.kk_nt, L3.kk_ni, L3.kk_ns, L3.kk_nl, L3.kk_bb, L3.kk_bt, L3.kk_bi, L3.kk_bs, L3.kk_bl, L3.kk_ib, L3.kk_it, L3.kk_ii, L3.kk_is, L3.kk_il, L3.kk_sb, L3.kk_st, L3.kk_si, L3.kk_ss, L3.kk_sl, L3.kk_tb, L3.kk_tt, L3.kk_ti, L3.kk_ts, L3.kk_tl, L3.kk_lb, L3.kk_lt, L3.kk_li, L3.kk_ls, L3.kk_ll, L3.at_0, L3.at_1, L3.at_2, L3.at_3, L3.eqA_int, L3.eqA_str, L3.eqA_bl, L3.lt_int, L3.gt_int, L3.le_int, L3.ge_int, L3.lt_str, L3.gt_str, L3.le_str, L3.ge_str, L3.add_int, L3.add_str, L3.exd, L3.exd0, L3.exd1, L3.exd2, L3.exd3, L3.exd4, L3.min_int, L3.min_str, L3.len_str, L3.len_lst, L3.len_tup, W_p_count_settings, wLenSet]
    refine ⟨skeys zs, hv.items, by simp [skeys]; omega, c, names.length, by rw [uniq_len hs hm], by omega, hc, by omega, rtE q⟩)
/-! ### listed settings -/
/-- the condition that holds where a listed row has just the names on -/
noncomputable def lst : List Str → List (List Str) → T
  | [], R => .lit (!R.isEmpty)
  | x :: xs, R => if R.isEmpty = true then .lit false else node x (lst xs (R.filter fun r => decide (x ∈ r))) (lst xs (R.filter fun r => decide (x ∉ r)))
theorem lst_nil : ∀ {xs : List Str}, lst xs [] = .lit false
  | [] => rfl
  | _ :: _ => rfl
theorem lst_ev : ∀ {xs : List Str} {R : List (List Str)} (σ : Str → Bool), (lst xs R).ev σ = true ↔ ∃ r ∈ R, ∀ x ∈ xs, decide (x ∈ r) = σ x
  | [], R, σ => by
    show (!R.isEmpty) = true ↔ _
    cases R with
    | nil => simp
    | cons r R => simp
  | x :: xs, R, σ => by
    cases R with
    | nil => exact ⟨fun h => (nomatch h), fun ⟨_, h, _⟩ => (nomatch h)⟩
    | cons r0 R =>
      show (node x (lst xs ((r0 :: R).filter fun r => decide (x ∈ r))) (lst xs ((r0 :: R).filter fun r => decide (x ∉ r)))).ev σ = true ↔ _
      rw [node_ev]
      generalize r0 :: R = R
      by_cases hx : σ x = true
      · rw [if_pos hx, lst_ev]
        refine ⟨fun ⟨r, hr, h⟩ => ?_, fun ⟨r, hr, h⟩ => ?_⟩
        · rw [List.mem_filter] at hr
          exact ⟨r, hr.1, fun y hy => (List.mem_cons.mp hy).elim (fun e => by rw [e, hx]; exact hr.2) (h y)⟩
        · exact ⟨r, List.mem_filter.mpr ⟨hr, by rw [h x (List.mem_cons_self ..), hx]⟩, fun y hy => h y (List.mem_cons_of_mem _ hy)⟩
      · have hx : σ x = false := by simpa using hx
        rw [if_neg (by rw [hx]; exact Bool.false_ne_true), lst_ev]
        refine ⟨fun ⟨r, hr, h⟩ => ?_, fun ⟨r, hr, h⟩ => ?_⟩
        · rw [List.mem_filter] at hr
          exact ⟨r, hr.1, fun y hy => (List.mem_cons.mp hy).elim (fun e => by rw [e, hx]; simpa using hr.2) (h y)⟩
        · have := h x (List.mem_cons_self ..)
          rw [hx] at this
          exact ⟨r, List.mem_filter.mpr ⟨hr, by simpa using this⟩, fun y hy => h y (List.mem_cons_of_mem _ hy)⟩
theorem lst_ab : ∀ {xs : List Str} {R : List (List Str)}, Srt xs → (lst xs R).ok ∧ ∀ y, (∀ x ∈ xs, L3M.ltS y x = true) → T.Ab y (lst xs R)
  | [], _, _ => ⟨trivial, fun _ _ => trivial⟩
  | x :: xs, R, h => by
    have h := List.pairwise_cons.mp h
    have h1 := lst_ab (R := R.filter fun r => decide (x ∈ r)) h.2
    have h2 := lst_ab (R := R.filter fun r => decide (x ∉ r)) h.2
    have a1 := h1.2 x h.1
    have a2 := h2.2 x h.1
    rw [lst]
    split
    · exact ⟨trivial, fun _ _ => trivial⟩
    · exact ⟨node_ok h1.1 h2.1 a1 a2, fun y hy => node_up (hy x (List.mem_cons_self ..)) a1⟩
theorem lst_nm : ∀ {xs : List Str} {R : List (List Str)}, (∀ x ∈ xs, PyData.strOk x = true) → (lst xs R).nm
  | [], _, _ => trivial
  | x :: xs, R, h => by
    rw [lst]
    split
    · trivial
    · exact node_nm (h x (List.mem_cons_self ..)) (lst_nm fun y hy => h y (List.mem_cons_of_mem _ hy)) (lst_nm fun y hy => h y (List.mem_cons_of_mem _ hy))
theorem lst_h : ∀ {xs : List Str} {R : List (List Str)}, (lst xs R).h ≤ xs.length
  | [], _ => Nat.le_refl _
  | x :: xs, R => by
    have h1 := lst_h (xs := xs) (R := R.filter fun r => decide (x ∈ r))
    have h2 := lst_h (xs := xs) (R := R.filter fun r => decide (x ∉ r))
    rw [lst]
    split
    · exact Nat.zero_le _
    · have := node_h (s := x) (a := lst xs (R.filter fun r => decide (x ∈ r))) (b := lst xs (R.filter fun r => decide (x ∉ r)))
      show (node x _ _).h ≤ xs.length + 1
      omega
theorem sl_get {xs : List Str} {j : Nat} (h : j < xs.length) : atI ((sl xs).map U.d) (j : Int) = some (.d (.str xs[j])) := by
  rw [L3.at_n (by rw [List.length_map, sl_len]; exact h)]
  simp [sl]
theorem b_or {b : Bool} {N : Bool → Prop} (h : N b) : (U.d (.bool b) = U.d (.bool false) ∧ N false) ∨ (U.d (.bool b) = U.d (.bool true) ∧ N true) := by
  cases b with
  | true => exact .inr ⟨rfl, h⟩
  | false => exact .inl ⟨rfl, h⟩
/-- rows given as lists or tuples -/
abbrev Row := PyData × List Str
def rd (Rs : List Row) : List PyData := Rs.map (·.1)
def rr (Rs : List Row) : List (List Str) := Rs.map (·.2)
def SqR (v : PyData) (Rs : List Row) : Prop := (v = .list (rd Rs) ∨ v = .tuple (rd Rs)) ∧ ∀ q ∈ Rs, SqS q.1 q.2
theorem SqR.items {v : PyData} {Rs : List Row} {μ : Mu} (h : SqR v Rs) : itemsU μ (.d v) = some ((rd Rs).map U.d) := by
  rcases h.1 with rfl | rfl <;> rfl
theorem SqS.itm {v : PyData} {zs : List Str} {μ : Mu} (h : SqS v zs) : itemsU μ (.d v) = some (zs.map fun y => U.d (.str y)) := by
  rcases h with rfl | rfl <;> simp only [itemsU, sl, List.map_map] <;> rfl
theorem rr_filter {Rs : List Row} {p : List Str → Bool} : rr (Rs.filter fun q => p q.2) = (rr Rs).filter p := by
  unfold rr
  rw [List.filter_map]
  rfl
theorem lc_rows {Rs : List Row} {p : List Str → Bool} {wt : WB} {a0 a1 a2 a3 a4 : Option U} {μ : Mu} {Al : Mu → Prop} {R : List U → Mu → Prop} (hl : Rs.length ≤ 1000) (al : Al μ)
    (ht : ∀ (q : Row), q ∈ Rs → ∀ N : Bool → Mu → Prop, N (p q.2) μ → wt [a0, a1, a2, a3, a4, some (.d q.1)] μ N) (hR : R ((rd (Rs.filter fun q => p q.2)).map U.d) μ) :
    lcGo (gN 5) wt (wV 5) Al ((rd Rs).map U.d) [] [a0, a1, a2, a3, a4, none] μ R := by
  have z : 1000 < sizeLine := by decide
  have ul : ((rd Rs).map U.d).length = Rs.length := by simp [rd]
  refine lcGo_inv (fun j ys μ' => μ' = μ ∧ ys = (rd ((Rs.take j).filter fun q => p q.2)).map U.d) ⟨rfl, by simp [rd]⟩ (fun _ _ _ ⟨e, _⟩ => by rw [e]; exact al) (fun j hj ys μ' N ⟨e1, e2⟩ hN => ?_) (fun ys μ' ⟨e1, e2⟩ => ?_)
  · subst e1 e2
    rw [ul] at hj
    have hg : ((rd Rs).map U.d)[j]'(by rw [ul]; exact hj) = U.d Rs[j].1 := by simp [rd]
    rw [hg]
    have hf : (rd ((Rs.take j).filter fun q => p q.2)).length ≤ j := by
      unfold rd
      rw [List.length_map]
      exact Nat.le_trans (List.length_filter_le _ _) (by rw [List.length_take]; omega)
    rw [List.take_succ_eq_append_getElem hj, List.filter_append, List.filter_cons, List.filter_nil] at hN
    show wt _ _ _
    refine ht _ (List.getElem_mem hj) _ ?_
    cases hc : p Rs[j].2 with
    | false =>
      rw [hc] at hN
      rw [if_neg Bool.false_ne_true]
      exact hN _ _ ⟨rfl, by simp⟩
    | true =>
      rw [hc] at hN
      rw [if_pos rfl]
      simp [wSeq, wIfS, wRet, wRetN, wNext, wDrop, wAsg, wAug, wBreak, wCont, wV, wC, wB, L3.wTru, L3.wNot, wAnd, wOr, wAndV, wOrV, wNotV, L3.wIf, wNeg, wOp, wCall, wQ, wML, wNil, wCons, wTup, wLst, wLstM, wIsi, wSl, wPart, wNoPart, wMinD, wJoin, wFrz, gN, sIx, sIs, sIsN, sI, sI0, truU, tyOk, tyU, isTruth, L3.isNon, itemsU, listU, ixU, qInt, qAbs, qStr, L3.max_int, start3, L3.kk_nb, L3.kk_nt, L3.kk_ni, L3.kk_ns, L3.kk_nl, L3.kk_bb, L3.kk_bt, L3.kk_bi, L3.kk_bs, L3.kk_bl, L3.kk_ib, L3.kk_it, L3.kk_ii, L3.kk_is, L3.kk_il, L3.kk_sb, L3.kk_st, L3.kk_si, L3.kk_ss, L3.kk_sl, L3.kk_tb, L3.kk_tt, L3.kk_ti, L3.kk_ts, L3.kk_tl, L3.kk_lb, L3.kk_lt, L3.kk_li, L3.kk_ls, L3.kk_ll, L3.at_0, L3.at_1, L3.at_2, L3.at_3, L3.eqA_int, L3.eqA_str, L3.eqA_bl, L3.lt_int, L3.gt_int, L3.le_int, L3.ge_int, L3.lt_str, L3.gt_str, L3.le_str, L3.ge_str, L3.add_int, L3.add_str, L3.exd, L3.exd0, L3.exd1, L3.exd2, L3.exd3, L3.exd4, L3.min_int, L3.min_str, L3.len_str, L3.len_lst, L3.len_tup]
      exact ⟨by omega, hN _ _ ⟨rfl, by simp [rd]⟩⟩
  · subst e1 e2
    rw [ul, List.take_length]
    exact hR
def S_ls (n : Nat) : WF := fun us μ Q => ∃ (v : PyData) (Rs : List Row) (names : List Str) (k : Nat), us = [.d v, .d (.list (sl names)), .d (.int (k : Int))] ∧ SqR v Rs ∧ Rs.length ≤ 1000 ∧ k ≤ names.length ∧ names.length - k ≤ n ∧ names.length ≤ 20 ∧ (∀ x ∈ names, PyData.strOk x = true) ∧ Q (.d (lst (names.drop k) (rr Rs)).d) μ
theorem ls_step {n : Nat} {s : WF} (D : Dn K mg "_listed" s_p__listed) (D1 : Dn K mg "_node" s_p__node) (m1 : mg "len" = none) {k0 kk : Nat} (c : C8.Cal P w K mg base k0 "_listed" (sp3 K s) []) (hk : k0 ≤ kk) (h1 : 1 ≤ kk) (hs : n ≠ 0 → s = S_ls (n - 1)) : C8.Cal P w K mg base (kk + 1) "_listed" (sp3 K (S_ls n)) [] :=
  cal_p__listed D (c_p__node := node_okC D1) (h_p__node := h1) (c_p__listed := c) (h_p__listed := hk) (m_len := m1) (len := fun us μ Q ⟨_, _, _, _, e, _⟩ => by rw [e]; rfl) (h := fun us μ Q ⟨v, Rs, names, k, e, hv, hl, hk, hn, h20, hok, q⟩ => by
    subst e
    have c1000 : 1000 < sizeLine := by decide
    have hit := fun μ' => hv.items (μ := μ')
    cases Rs with
    | nil =>
      have q : Q (.d (lst (names.drop k) []).d) μ := q
      rw [lst_nil] at q
      rcases hv.1 with rfl | rfl
      · simp [wSeq, wIfS, wRet, wRetN, wNext, wDrop, wAsg, wAug, wBreak, wCont, wV, wC, wB, L3.wTru, L3.wNot, wAnd, wOr, wAndV, wOrV, wNotV, L3.wIf, wNeg, wOp, wCall, wQ, wML, wNil, wCons, wTup, wLst, wLstM, wIsi, wSl, wPart, wNoPart, wMinD, wJoin, wFrz, gN, sIx, sIs, sIsN, sI, sI0, truU, tyOk, tyU, isTruth, L3.isNon, itemsU, listU, ixU, qInt, qAbs, qStr, L3.max_int, start3, L3.kk_nb, L3.kk_nt, L3.kk_ni, L3.kk_ns, L3.kk_nl, L3.kk_bb, L3.kk_bt, L3.kk_bi, L3.kk_bs, L3.kk_bl, L3.kk_ib, L3.kk_it, L3.kk_ii, L3.kk_is, L3.kk_il, L3.kk_sb, L3.kk_st, L3.kk_si, L3.kk_ss, L3.kk_sl, L3.kk_tb, L3.kk_tt, L3.kk_ti, L3.kk_ts, L3.kk_tl, L3.kk_lb, L3.kk_lt, L3.kk_li, L3.kk_ls, L3.kk_ll, L3.at_0, L3.at_1, L3.at_2, L3.at_3, L3.eqA_int, L3.eqA_str, L3.eqA_bl, L3.lt_int, L3.gt_int, L3.le_int, L3.ge_int, L3.lt_str, L3.gt_str, L3.le_str, L3.ge_str, L3.add_int, L3.add_str, L3.exd, L3.exd0, L3.exd1, L3.exd2, L3.exd3, L3.exd4, L3.min_int, L3.min_str, L3.len_str, L3.len_lst, L3.len_tup, W_p__listed, rd]
        exact rtE q
      · simp [wSeq, wIfS, wRet, wRetN, wNext, wDrop, wAsg, wAug, wBreak, wCont, wV, wC, wB, L3.wTru, L3.wNot, wAnd, wOr, wAndV, wOrV, wNotV, L3.wIf, wNeg, wOp, wCall, wQ, wML, wNil, wCons, wTup, wLst, wLstM, wIsi, wSl, wPart, wNoPart, wMinD, wJoin, wFrz, gN, sIx, sIs, sIsN, sI, sI0, truU, tyOk, tyU, isTruth, L3.isNon, itemsU, listU, ixU, qInt, qAbs, qStr, L3.max_int, start3, L3.kk_nb, L3.kk_nt, L3.kk_ni, L3.kk_ns, L3.kk_nl, L3.kk_bb, L3.kk_bt, L3.kk_bi, L3.kk_bs, L3.kk_bl, L3.kk_ib, L3.kk_it, L3.kk_ii, L3.kk_is, L3.kk_il, L3.kk_sb, L3.kk_st, L3.kk_si, L3.kk_ss, L3.kk_sl, L3.kk_tb, L3.kk_tt, L3.kk_ti, L3.kk_ts, L3.kk_tl, L3.kk_lb, L3.kk_lt, L3.kk_li, L3.kk_ls, L3.kk_ll, L3.at_0, L3.at_1, L3.at_2, L3.at_3, L3.eqA_int, L3.eqA_str, L3.eqA_bl, L3.lt_int, L3.gt_int, L3.le_int, L3.ge_int, L3.lt_str, L3.gt_str, L3.le_str, L3.ge_str, L3.add_int, L3.add_str, L3.exd, L3.exd0, L3.exd1, L3.exd2, L3.exd3, L3.exd4, L3.min_int, L3.min_str, L3.len_str, L3.len_lst, L3.len_tup, W_p__listed, rd]
        exact rtE q
    | cons r0 Rs =>
      simp [wSeq, wIfS, wRet, wRetN, wNext, wDrop, wAsg, wAug, wBreak, wCont, wV, wC, wB, L3.wTru, L3.wNot, wAnd, wOr, wAndV, wOrV, wNotV, L3.wIf, wNeg, wOp, wCall, wQ, wML, wNil, wCons, wTup, wLst, wLstM, wIsi, wSl, wPart, wNoPart, wMinD, wJoin, wFrz, gN, sIx, sIs, sIsN, sI, sI0, truU, tyOk, tyU, isTruth, L3.isNon, itemsU, listU, ixU, qInt, qAbs, qStr, L3.max_int, start3, L3.kk_nb, L3.kk_nt, L3.kk_ni, L3.kk_ns, L3.kk_nl, L3.kk_bb, L3.kk_bt, L3.kk_bi, L3.kk_bs, L3.kk_bl, L3.kk_ib, L3.kk_it, L3.kk_ii, L3.kk_is, L3.kk_il, L3.kk_sb, L3.kk_st, L3.kk_si, L3.kk_ss, L3.kk_sl, L3.kk_tb, L3.kk_tt, L3.kk_ti, L3.kk_ts, L3.kk_tl, L3.kk_lb, L3.kk_lt, L3.kk_li, L3.kk_ls, L3.kk_ll, L3.at_0, L3.at_1, L3.at_2, L3.at_3, L3.eqA_int, L3.eqA_str, L3.eqA_bl, L3.lt_int, L3.gt_int, L3.le_int, L3.ge_int, L3.lt_str, L3.gt_str, L3.le_str, L3.ge_str, L3.add_int, L3.add_str, L3.exd, L3.exd0, L3.exd1, L3.exd2, L3.exd3, L3.exd4, L3.min_int, L3.min_str, L3.len_str, L3.len_lst, L3.len_tup, W_p__listed, wLc, jSeq, sl_len]
      refine .inr ⟨by rcases hv.1 with rfl | rfl <;> rfl, ?_⟩
      by_cases hkn : k = names.length
      · have q : Q (.d (lst (names.drop k) (rr (r0 :: Rs))).d) μ := q
        rw [hkn, List.drop_length] at q
        exact .inr ⟨by rw [hkn], rtE q⟩
      · have hkl : k < names.length := by omega
        have hx : atI ((sl names).map U.d) (k : Int) = some (.d (.str names[k])) := sl_get hkl
        refine .inl ⟨by omega, _, hit μ, ?_⟩
        refine lc_rows (p := fun r => decide (names[k] ∈ r)) hl (hit μ) (fun q0 hq0 N hN => ?_) ?_
        · simp [wSeq, wIfS, wRet, wRetN, wNext, wDrop, wAsg, wAug, wBreak, wCont, wV, wC, wB, L3.wTru, L3.wNot, wAnd, wOr, wAndV, wOrV, wNotV, L3.wIf, wNeg, wOp, wCall, wQ, wML, wNil, wCons, wTup, wLst, wLstM, wIsi, wSl, wPart, wNoPart, wMinD, wJoin, wFrz, gN, sIx, sIs, sIsN, sI, sI0, truU, tyOk, tyU, isTruth, L3.isNon, itemsU, listU, ixU, qInt, qAbs, qStr, L3.max_int, start3, L3.kk_nb, L3.kk_nt, L3.kk_ni, L3.kk_ns, L3.kk_nl, L3.kk_bb, L3.kk_bt, L3.kk_bi, L3.kk_bs, L3.kk_bl, L3.kk_ib, L3.kk_it, L3.kk_ii, L3.kk_is, L3.kk_il, L3.kk_sb, L3.kk_st, L3.kk_si, L3.kk_ss, L3.kk_sl, L3.kk_tb, L3.kk_tt, L3.kk_ti, L3.kk_ts, L3.kk_tl, L3.kk_lb, L3.kk_lt, L3.kk_li, L3.kk_ls, L3.kk_ll, L3.at_0, L3.at_1, L3.at_2, L3.at_3, L3.eqA_int, L3.eqA_str, L3.eqA_bl, L3.lt_int, L3.gt_int, L3.le_int, L3.ge_int, L3.lt_str, L3.gt_str, L3.le_str, L3.ge_str, L3.add_int, L3.add_str, L3.exd, L3.exd0, L3.exd1, L3.exd2, L3.exd3, L3.exd4, L3.min_int, L3.min_str, L3.len_str, L3.len_lst, L3.len_tup, hx]
          exact in_strs (hv.2 q0 hq0).itm (b_or (N := fun b => N b μ) hN)
        · refine ⟨_, rfl, _, hit μ, ?_⟩
          refine lc_rows (p := fun r => decide (names[k] ∉ r)) hl (hit μ) (fun q0 hq0 N hN => ?_) ?_
          · simp [wSeq, wIfS, wRet, wRetN, wNext, wDrop, wAsg, wAug, wBreak, wCont, wV, wC, wB, L3.wTru, L3.wNot, wAnd, wOr, wAndV, wOrV, wNotV, L3.wIf, wNeg, wOp, wCall, wQ, wML, wNil, wCons, wTup, wLst, wLstM, wIsi, wSl, wPart, wNoPart, wMinD, wJoin, wFrz, gN, sIx, sIs, sIsN, sI, sI0, truU, tyOk, tyU, isTruth, L3.isNon, itemsU, listU, ixU, qInt, qAbs, qStr, L3.max_int, start3, L3.kk_nb, L3.kk_nt, L3.kk_ni, L3.kk_ns, L3.kk_nl, L3.kk_bb, L3.kk_bt, L3.kk_bi, L3.kk_bs, L3.kk_bl, L3.kk_ib, L3.kk_it, L3.kk_ii, L3.kk_is, L3.kk_il, L3.kk_sb, L3.kk_st, L3.kk_si, L3.kk_ss, L3.kk_sl, L3.kk_tb, L3.kk_tt, L3.kk_ti, L3.kk_ts, L3.kk_tl, L3.kk_lb, L3.kk_lt, L3.kk_li, L3.kk_ls, L3.kk_ll, L3.at_0, L3.at_1, L3.at_2, L3.at_3, L3.eqA_int, L3.eqA_str, L3.eqA_bl, L3.lt_int, L3.gt_int, L3.le_int, L3.ge_int, L3.lt_str, L3.gt_str, L3.le_str, L3.ge_str, L3.add_int, L3.add_str, L3.exd, L3.exd0, L3.exd1, L3.exd2, L3.exd3, L3.exd4, L3.min_int, L3.min_str, L3.len_str, L3.len_lst, L3.len_tup, hx]
            refine in_strs (hv.2 q0 hq0).itm (b_or (N := fun b => N b μ) ?_)
            have e : (!decide (names[k] ∈ q0.2)) = decide (names[k] ∉ q0.2) := by simp
            rw [e]
            exact hN
          · refine ⟨_, rfl, _, hx, ?_⟩
            have hn0 : n ≠ 0 := by omega
            have es := hs hn0
            subst es
            have ek : (k : Int) + 1 = ((k + 1 : Nat) : Int) := rfl
            rw [ek]
            have sub : ∀ p : List Str → Bool, SqR (.list (rd ((r0 :: Rs).filter fun q => p q.2))) ((r0 :: Rs).filter fun q => p q.2) ∧ ((r0 :: Rs).filter fun q => p q.2).length ≤ 1000 := fun p => ⟨⟨.inl rfl, fun q hq => hv.2 q (List.mem_filter.mp hq).1⟩, Nat.le_trans (List.length_filter_le _ _) hl⟩
            have sub2 : ∀ x ∈ names.drop (k + 1), PyData.strOk x = true := fun x hx => hok x (List.mem_of_mem_drop hx)
            have hh : ∀ R, (lst (names.drop (k + 1)) R).h ≤ 64 := fun R => by
              have := lst_h (xs := names.drop (k + 1)) (R := R)
              rw [List.length_drop] at this
              omega
            obtain ⟨s1, s2⟩ := sub fun r => decide (names[k] ∈ r)
            obtain ⟨t1, t2⟩ := sub fun r => decide (names[k] ∉ r)
            refine ⟨_, _, names, k + 1, rfl, s1, s2, by omega, by omega, h20, hok, _, _, names, k + 1, rfl, t1, t2, by omega, by omega, h20, hok, ?_⟩
            refine ⟨names[k], _, _, rfl, lst_nm sub2, lst_nm sub2, hh _, hh _, rtE ?_⟩
            have e0 : names.drop k = names[k] :: names.drop (k + 1) := List.drop_eq_getElem_cons hkl
            have f1 : rr ((r0 :: Rs).filter fun q => decide (names[k] ∈ q.2)) = (rr (r0 :: Rs)).filter fun r => decide (names[k] ∈ r) := rr_filter (p := fun r => decide (names[k] ∈ r))
            have f2 : rr ((r0 :: Rs).filter fun q => decide (names[k] ∉ q.2)) = (rr (r0 :: Rs)).filter fun r => decide (names[k] ∉ r) := rr_filter (p := fun r => decide (names[k] ∉ r))
            rw [f1, f2]
            rw [e0] at q
            exact q)
theorem ls_ok (D : Dn K mg "_listed" s_p__listed) (D1 : Dn K mg "_node" s_p__node) (m1 : mg "len" = none) : ∀ n, C8.Cal P w K mg base (n + 2) "_listed" (sp3 K (S_ls n)) []
  | 0 => ls_step (n := 0) D D1 m1 (z_p__listed D) (kk := 1) (by omega) (by omega) (fun h => absurd rfl h)
  | n + 1 => ls_step (n := n + 1) D D1 m1 (ls_ok D D1 m1 n) (Nat.le_refl _) (by omega) (fun _ => rfl)
def S_fr : WF := fun us μ Q => ∃ (v v2 : PyData) (Rs : List Row) (zs names : List Str), us = [.d v, .d v2] ∧ SqR v Rs ∧ Rs.length ≤ 1000 ∧ SqS v2 zs ∧ zs.length ≤ 100 ∧ Srt names ∧ names.length ≤ 20 ∧ (∀ z, z ∈ zs ↔ z ∈ names) ∧ (∀ x ∈ names, PyData.strOk x = true) ∧ Q (.d (lst names (rr Rs)).d) μ
theorem fr_ok (D : Dn K mg "from_settings" s_p_from_settings) (D0 : Dn K mg "_listed" s_p__listed) (D1 : Dn K mg "_node" s_p__node) (m1 : mg "len" = none) (m2 : mg "sorted" = none) (m3 : mg "set" = none) : C8.Cal P w K mg base 23 "from_settings" (sp3 K S_fr) [] :=
  cal_p_from_settings D (c_p__listed := ls_ok D0 D1 m1 20) (h_p__listed := Nat.le_refl _) (m_sorted := m2) (m_set := m3) (len := fun us μ Q ⟨_, _, _, _, _, e, _⟩ => by rw [e]; rfl) (h := fun us μ Q ⟨v, v2, Rs, zs, names, e, hv, hl, hv2, hz, hs, hn, hm, hok, q⟩ => by
    subst e
    simp [wSeq, wIfS, wRet, wRetN, wNext, wDrop, wAsg, wAug, wBreak, wCont, wV, wC, wB, L3.wTru, L3.wNot, wAnd, wOr, wAndV, wOrV, wNotV, L3.wIf, wNeg, wOp, wCall, wQ, wML, wNil, wCons, wTup, wLst, wLstM, wIsi, wSl, wPart, wNoPart, wMinD, wJoin, wFrz, gN, sIx, sIs, sIsN, sI, sI0, truU, tyOk, tyU, isTruth, L3.isNon, itemsU, listU, ixU, qInt, qAbs, qStr, L3.max_int, start3, L3.kk_nb, L3.kk_nt, L3.kk_ni, L3.kk_ns, L3.kk_nl, L3.kk_bb, L3.kk_bt, L3.kk_bi, L3.kk_bs, L3.kk_bl, L3.kk_ib, L3.kk_it, L3.kk_ii, L3.kk_is, L3.kk_il, L3.kk_sb, L3.kk_st, L3.kk_si, L3.kk_ss, L3.kk_sl, L3.kk_tb, L3.kk_tt, L3.kk_ti, L3.kk_ts, L3.kk_tl, L3.kk_lb, L3.kk_lt, L3.kk_li, L3.kk_ls, L3.kk_ll, L3.at_0, L3.at_1, L3.at_2, L3.at_3, L3.eqA_int, L3.eqA_str, L3.eqA_bl, L3.lt_int, L3.gt_int, L3.le_int, L3.ge_int, L3.lt_str, L3.gt_str, L3.le_str, L3.ge_str, L3.add_int, L3.add_str, L3.exd, L3.exd0, L3.exd1, L3.exd2, L3.exd3, L3.exd4, L3.min_int, L3.min_str, L3.len_str, L3.len_lst, L3.len_tup, W_p_from_settings, wSortSet]
    refine ⟨skeys zs, hv2.items, by simp [skeys]; omega, skeys_one, ?_⟩
    rw [sort_uniqS hs hm]
    exact ⟨v, Rs, names, 0, rfl, hv, hl, by omega, by omega, hn, hok, rtE q⟩)
end
end K01

/-! the least setting; what is strewn; the law's mathematics -/
namespace K01
open PySem PySem.Spec PyProof.Rows L2 L3 Cn
/-- the least setting, or None -/
def fsd : T → PyData
  | .lit false => .none
  | c => .tuple (sl (Ot.ons c))
theorem fsd_ne {c : T} (h : c ≠ .lit false) : fsd c = .tuple (sl (Ot.ons c)) := by
  cases c with
  | nd _ _ _ => rfl
  | lit b =>
    cases b with
    | true => rfl
    | false => exact absurd rfl h
section
variable {P : Program} {w : World} {K : Fg} {mg : Str → Option Value} {base : Heap}
def S_fs : WF := fun us μ Q => ∃ c : T, us = [.d c.d] ∧ c.h ≤ 60 ∧ Q (.d (fsd c)) μ
theorem ons_le : ∀ {c : T}, (Ot.ons c).length ≤ c.h
  | .lit _ => Nat.zero_le _
  | .nd s a b => by
    have h1 := ons_le (c := a)
    have h2 := ons_le (c := b)
    show _ ≤ max a.h b.h + 1
    by_cases e : b = .lit false
    · rw [e, Ot.ons_on, List.length_cons]; omega
    · rw [Ot.ons_off e]; omega
theorem first_ok (D : Dn K mg "first_setting" s_p_first_setting) (m1 : mg "isinstance" = none) (m2 : mg "tuple" = none) : C8.Cal P w K mg base 1 "first_setting" (sp3 K S_fs) [] :=
  cal_p_first_setting D (m_isinstance := m1) (m_tuple := m2) (len := fun us μ Q ⟨_, e, _⟩ => by rw [e]; rfl) (h := fun us μ Q ⟨c, e, h60, q⟩ => by
    subst e
    by_cases hc : c = .lit false
    · subst hc
      simp [wSeq, wIfS, wRet, wRetN, wNext, wDrop, wAsg, wAug, wBreak, wCont, wV, wC, wB, L3.wTru, L3.wNot, wAnd, wOr, wAndV, wOrV, wNotV, L3.wIf, wNeg, wOp, wCall, wQ, wML, wNil, wCons, wTup, wLst, wLstM, wIsi, wSl, wPart, wNoPart, wMinD, wJoin, wFrz, gN, sIx, sIs, sIsN, sI, sI0, truU, tyOk, tyU, isTruth, L3.isNon, itemsU, listU, ixU, qInt, qAbs, qStr, L3.max_int, start3, L3.kk_nb, L3.kk_nt, L3.kk_ni, L3.kk_ns, L3.kk_nl, L3.kk_bb, L3.kk_bt, L3.kk_bi, L3.kk_bs, L3.kk_bl, L3.kk_ib, L3.kk_it, L3.kk_ii, L3.kk_is, L3.kk_il, L3.kk_sb, L3.kk_st, L3.kk_si, L3.kk_ss, L3.kk_sl, L3.kk_tb, L3.kk_tt, L3.kk_ti, L3.kk_ts, L3.kk_tl, L3.kk_lb, L3.kk_lt, L3.kk_li, L3.kk_ls, L3.kk_ll, L3.at_0, L3.at_1, L3.at_2, L3.at_3, L3.eqA_int, L3.eqA_str, L3.eqA_bl, L3.lt_int, L3.gt_int, L3.le_int, L3.ge_int, L3.lt_str, L3.gt_str, L3.le_str, L3.ge_str, L3.add_int, L3.add_str, L3.exd, L3.exd0, L3.exd1, L3.exd2, L3.exd3, L3.exd4, L3.min_int, L3.min_str, L3.len_str, L3.len_lst, L3.len_tup, W_p_first_setting, T.d]
      exact rtE q
    rw [fsd_ne hc] at q
    have big : 1000 < sizeLine := by decide
    have go : ∀ p, μ p = none → wWhile (L3.wTru (wIsi "tuple" (wV 0))) (wIfS (wB (wOp (sIs false id) (wOp sIx (wV 0) (wC (.int 2))) (wC (.bool false)))) (wSeq (wDrop (wML mAppend (wV 1) (wCons (wOp sIx (wV 0) (wC (.int 0))) wNil)))
        (wAsg (wOp sIx (wV 0) (wC (.int 1))) (gN 0))) (wAsg (wOp sIx (wV 0) (wC (.int 2))) (gN 0))) { E3 μ Q with nx := fun ρ μ' => wRet (wQ qTuple (wCons (wV 1) wNil)) (E3 μ Q) ρ μ' } [some (.d c.d), some (.r p)] (put μ p (.lst [])) := by
      intro p hp
      simp [wSeq, wIfS, wRet, wRetN, wNext, wDrop, wAsg, wAug, wBreak, wCont, wV, wC, wB, L3.wTru, L3.wNot, wAnd, wOr, wAndV, wOrV, wNotV, L3.wIf, wNeg, wOp, wCall, wQ, wML, wNil, wCons, wTup, wLst, wLstM, wIsi, wSl, wPart, wNoPart, wMinD, wJoin, wFrz, gN, sIx, sIs, sIsN, sI, sI0, truU, tyOk, tyU, isTruth, L3.isNon, itemsU, listU, ixU, qInt, qAbs, qStr, L3.max_int, start3, L3.kk_nb, L3.kk_nt, L3.kk_ni, L3.kk_ns, L3.kk_nl, L3.kk_bb, L3.kk_bt, L3.kk_bi, L3.kk_bs, L3.kk_bl, L3.kk_ib, L3.kk_it, L3.kk_ii, L3.kk_is, L3.kk_il, L3.kk_sb, L3.kk_st, L3.kk_si, L3.kk_ss, L3.kk_sl, L3.kk_tb, L3.kk_tt, L3.kk_ti, L3.kk_ts, L3.kk_tl, L3.kk_lb, L3.kk_lt, L3.kk_li, L3.kk_ls, L3.kk_ll, L3.at_0, L3.at_1, L3.at_2, L3.at_3, L3.eqA_int, L3.eqA_str, L3.eqA_bl, L3.lt_int, L3.gt_int, L3.le_int, L3.ge_int, L3.lt_str, L3.gt_str, L3.le_str, L3.ge_str, L3.add_int, L3.add_str, L3.exd, L3.exd0, L3.exd1, L3.exd2, L3.exd3, L3.exd4, L3.min_int, L3.min_str, L3.len_str, L3.len_lst, L3.len_tup, wWhile]
      refine ⟨fun m ρ μ' => ∃ (t : T) (acc : List Str), ρ = [some (.d t.d), some (.r p)] ∧ μ' = put μ p (.lst ((sl acc).map U.d)) ∧ acc ++ Ot.ons t = Ot.ons c ∧ acc.length + t.h ≤ 60 ∧ t.h = m, ⟨c.h, c, [], rfl, rfl, rfl, by simpa using h60, rfl⟩, fun m ρ μ' ⟨t, acc, e1, e2, e3, e4, e5⟩ => ?_⟩
      subst e1 e2
      cases t with
      | lit b =>
        simp [wSeq, wIfS, wRet, wRetN, wNext, wDrop, wAsg, wAug, wBreak, wCont, wV, wC, wB, L3.wTru, L3.wNot, wAnd, wOr, wAndV, wOrV, wNotV, L3.wIf, wNeg, wOp, wCall, wQ, wML, wNil, wCons, wTup, wLst, wLstM, wIsi, wSl, wPart, wNoPart, wMinD, wJoin, wFrz, gN, sIx, sIs, sIsN, sI, sI0, truU, tyOk, tyU, isTruth, L3.isNon, itemsU, listU, ixU, qInt, qAbs, qStr, L3.max_int, start3, L3.kk_nb, L3.kk_nt, L3.kk_ni, L3.kk_ns, L3.kk_nl, L3.kk_bb, L3.kk_bt, L3.kk_bi, L3.kk_bs, L3.kk_bl, L3.kk_ib, L3.kk_it, L3.kk_ii, L3.kk_is, L3.kk_il, L3.kk_sb, L3.kk_st, L3.kk_si, L3.kk_ss, L3.kk_sl, L3.kk_tb, L3.kk_tt, L3.kk_ti, L3.kk_ts, L3.kk_tl, L3.kk_lb, L3.kk_lt, L3.kk_li, L3.kk_ls, L3.kk_ll, L3.at_0, L3.at_1, L3.at_2, L3.at_3, L3.eqA_int, L3.eqA_str, L3.eqA_bl, L3.lt_int, L3.gt_int, L3.le_int, L3.ge_int, L3.lt_str, L3.gt_str, L3.le_str, L3.ge_str, L3.add_int, L3.add_str, L3.exd, L3.exd0, L3.exd1, L3.exd2, L3.exd3, L3.exd4, L3.min_int, L3.min_str, L3.len_str, L3.len_lst, L3.len_tup, T.d]
        have e3 : acc ++ [] = Ot.ons c := e3
        rw [List.append_nil] at e3
        subst e3
        refine ⟨U.r p, sl (Ot.ons c), rfl, by simp only [itemsU, put_same], rtD p (rtE ?_)⟩
        rw [del_put hp]
        exact q
      | nd s a b =>
        have e5 : max a.h b.h + 1 = m := e5
        have e4 : acc.length + (max a.h b.h + 1) ≤ 60 := e4
        simp [wSeq, wIfS, wRet, wRetN, wNext, wDrop, wAsg, wAug, wBreak, wCont, wV, wC, wB, L3.wTru, L3.wNot, wAnd, wOr, wAndV, wOrV, wNotV, L3.wIf, wNeg, wOp, wCall, wQ, wML, wNil, wCons, wTup, wLst, wLstM, wIsi, wSl, wPart, wNoPart, wMinD, wJoin, wFrz, gN, sIx, sIs, sIsN, sI, sI0, truU, tyOk, tyU, isTruth, L3.isNon, itemsU, listU, ixU, qInt, qAbs, qStr, L3.max_int, start3, L3.kk_nb, L3.kk_nt, L3.kk_ni, L3.kk_ns, L3.kk_nl, L3.kk_bb, L3.kk_bt, L3.kk_bi, L3.kk_bs, L3.kk_bl, L3.kk_ib, L3.kk_it, L3.kk_ii, L3.kk_is, L3.kk_il, L3.kk_sb, L3.kk_st, L3.kk_si, L3.kk_ss, L3.kk_sl, L3.kk_tb, L3.kk_tt, L3.kk_ti, L3.kk_ts, L3.kk_tl, L3.kk_lb, L3.kk_lt, L3.kk_li, L3.kk_ls, L3.kk_ll, L3.at_0, L3.at_1, L3.at_2, L3.at_3, L3.eqA_int, L3.eqA_str, L3.eqA_bl, L3.lt_int, L3.gt_int, L3.le_int, L3.ge_int, L3.lt_str, L3.gt_str, L3.le_str, L3.ge_str, L3.add_int, L3.add_str, L3.exd, L3.exd0, L3.exd1, L3.exd2, L3.exd3, L3.exd4, L3.min_int, L3.min_str, L3.len_str, L3.len_lst, L3.len_tup, T.d]
        by_cases hb : b = .lit false
        · subst hb
          rw [Ot.ons_on] at e3
          simp [wSeq, wIfS, wRet, wRetN, wNext, wDrop, wAsg, wAug, wBreak, wCont, wV, wC, wB, L3.wTru, L3.wNot, wAnd, wOr, wAndV, wOrV, wNotV, L3.wIf, wNeg, wOp, wCall, wQ, wML, wNil, wCons, wTup, wLst, wLstM, wIsi, wSl, wPart, wNoPart, wMinD, wJoin, wFrz, gN, sIx, sIs, sIsN, sI, sI0, truU, tyOk, tyU, isTruth, L3.isNon, itemsU, listU, ixU, qInt, qAbs, qStr, L3.max_int, start3, L3.kk_nb, L3.kk_nt, L3.kk_ni, L3.kk_ns, L3.kk_nl, L3.kk_bb, L3.kk_bt, L3.kk_bi, L3.kk_bs, L3.kk_bl, L3.kk_ib, L3.kk_it, L3.kk_ii, L3.kk_is, L3.kk_il, L3.kk_sb, L3.kk_st, L3.kk_si, L3.kk_ss, L3.kk_sl, L3.kk_tb, L3.kk_tt, L3.kk_ti, L3.kk_ts, L3.kk_tl, L3.kk_lb, L3.kk_lt, L3.kk_li, L3.kk_ls, L3.kk_ll, L3.at_0, L3.at_1, L3.at_2, L3.at_3, L3.eqA_int, L3.eqA_str, L3.eqA_bl, L3.lt_int, L3.gt_int, L3.le_int, L3.ge_int, L3.lt_str, L3.gt_str, L3.le_str, L3.ge_str, L3.add_int, L3.add_str, L3.exd, L3.exd0, L3.exd1, L3.exd2, L3.exd3, L3.exd4, L3.min_int, L3.min_str, L3.len_str, L3.len_lst, L3.len_tup, T.d]
          refine ⟨isL_r put_same, append_r put_same (by rw [List.length_map, sl_len]; omega) ?_⟩
          rw [put_put]
          exact ⟨a.h, by omega, a, rfl, acc ++ [s], by simp [sl], by simpa using e3, by simp; omega, rfl⟩
        · rw [Ot.ons_off hb] at e3
          have nb : isTruth false (.d b.d) = false := by
            cases b with
            | lit x => cases x with
              | false => exact absurd rfl hb
              | true => rfl
            | nd _ _ _ => rfl
          have nb' : ∀ d, b.d = d → isTruth false (.d d) = false := fun d e => e ▸ nb
          cases b with
          | lit x =>
            cases x with
            | false => exact absurd rfl hb
            | true =>
              simp [wSeq, wIfS, wRet, wRetN, wNext, wDrop, wAsg, wAug, wBreak, wCont, wV, wC, wB, L3.wTru, L3.wNot, wAnd, wOr, wAndV, wOrV, wNotV, L3.wIf, wNeg, wOp, wCall, wQ, wML, wNil, wCons, wTup, wLst, wLstM, wIsi, wSl, wPart, wNoPart, wMinD, wJoin, wFrz, gN, sIx, sIs, sIsN, sI, sI0, truU, tyOk, tyU, isTruth, L3.isNon, itemsU, listU, ixU, qInt, qAbs, qStr, L3.max_int, start3, L3.kk_nb, L3.kk_nt, L3.kk_ni, L3.kk_ns, L3.kk_nl, L3.kk_bb, L3.kk_bt, L3.kk_bi, L3.kk_bs, L3.kk_bl, L3.kk_ib, L3.kk_it, L3.kk_ii, L3.kk_is, L3.kk_il, L3.kk_sb, L3.kk_st, L3.kk_si, L3.kk_ss, L3.kk_sl, L3.kk_tb, L3.kk_tt, L3.kk_ti, L3.kk_ts, L3.kk_tl, L3.kk_lb, L3.kk_lt, L3.kk_li, L3.kk_ls, L3.kk_ll, L3.at_0, L3.at_1, L3.at_2, L3.at_3, L3.eqA_int, L3.eqA_str, L3.eqA_bl, L3.lt_int, L3.gt_int, L3.le_int, L3.ge_int, L3.lt_str, L3.gt_str, L3.le_str, L3.ge_str, L3.add_int, L3.add_str, L3.exd, L3.exd0, L3.exd1, L3.exd2, L3.exd3, L3.exd4, L3.min_int, L3.min_str, L3.len_str, L3.len_lst, L3.len_tup, T.d]
              exact ⟨0, by omega, .lit true, rfl, acc, rfl, e3, by simp only [T.h] at *; omega, rfl⟩
          | nd s' a' b' =>
            simp [wSeq, wIfS, wRet, wRetN, wNext, wDrop, wAsg, wAug, wBreak, wCont, wV, wC, wB, L3.wTru, L3.wNot, wAnd, wOr, wAndV, wOrV, wNotV, L3.wIf, wNeg, wOp, wCall, wQ, wML, wNil, wCons, wTup, wLst, wLstM, wIsi, wSl, wPart, wNoPart, wMinD, wJoin, wFrz, gN, sIx, sIs, sIsN, sI, sI0, truU, tyOk, tyU, isTruth, L3.isNon, itemsU, listU, ixU, qInt, qAbs, qStr, L3.max_int, start3, L3.kk_nb, L3.kk_nt, L3.kk_ni, L3.kk_ns, L3.kk_nl, L3.kk_bb, L3.kk_bt, L3.kk_bi, L3.kk_bs, L3.kk_bl, L3.kk_ib, L3.kk_it, L3.kk_ii, L3.kk_is, L3.kk_il, L3.kk_sb, L3.kk_st, L3.kk_si, L3.kk_ss, L3.kk_sl, L3.kk_tb, L3.kk_tt, L3.kk_ti, L3.kk_ts, L3.kk_tl, L3.kk_lb, L3.kk_lt, L3.kk_li, L3.kk_ls, L3.kk_ll, L3.at_0, L3.at_1, L3.at_2, L3.at_3, L3.eqA_int, L3.eqA_str, L3.eqA_bl, L3.lt_int, L3.gt_int, L3.le_int, L3.ge_int, L3.lt_str, L3.gt_str, L3.le_str, L3.ge_str, L3.add_int, L3.add_str, L3.exd, L3.exd0, L3.exd1, L3.exd2, L3.exd3, L3.exd4, L3.min_int, L3.min_str, L3.len_str, L3.len_lst, L3.len_tup, T.d]
            exact ⟨_, by omega, .nd s' a' b', rfl, acc, rfl, e3, by omega, rfl⟩
    have lit0 : ∀ b, c = .lit b → b = true := fun b e => by
      cases b with
      | true => rfl
      | false => exact absurd e hc
    cases c with
    | lit b =>
      obtain rfl := lit0 b rfl
      have go := go
      simp [wSeq, wIfS, wRet, wRetN, wNext, wDrop, wAsg, wAug, wBreak, wCont, wV, wC, wB, L3.wTru, L3.wNot, wAnd, wOr, wAndV, wOrV, wNotV, L3.wIf, wNeg, wOp, wCall, wQ, wML, wNil, wCons, wTup, wLst, wLstM, wIsi, wSl, wPart, wNoPart, wMinD, wJoin, wFrz, gN, sIx, sIs, sIsN, sI, sI0, truU, tyOk, tyU, isTruth, L3.isNon, itemsU, listU, ixU, qInt, qAbs, qStr, L3.max_int, start3, L3.kk_nb, L3.kk_nt, L3.kk_ni, L3.kk_ns, L3.kk_nl, L3.kk_bb, L3.kk_bt, L3.kk_bi, L3.kk_bs, L3.kk_bl, L3.kk_ib, L3.kk_it, L3.kk_ii, L3.kk_is, L3.kk_il, L3.kk_sb, L3.kk_st, L3.kk_si, L3.kk_ss, L3.kk_sl, L3.kk_tb, L3.kk_tt, L3.kk_ti, L3.kk_ts, L3.kk_tl, L3.kk_lb, L3.kk_lt, L3.kk_li, L3.kk_ls, L3.kk_ll, L3.at_0, L3.at_1, L3.at_2, L3.at_3, L3.eqA_int, L3.eqA_str, L3.eqA_bl, L3.lt_int, L3.gt_int, L3.le_int, L3.ge_int, L3.lt_str, L3.gt_str, L3.le_str, L3.ge_str, L3.add_int, L3.add_str, L3.exd, L3.exd0, L3.exd1, L3.exd2, L3.exd3, L3.exd4, L3.min_int, L3.min_str, L3.len_str, L3.len_lst, L3.len_tup, W_p_first_setting, T.d]
      exact fun p hp => go p hp
    | nd s a b =>
      have go := go
      simp [wSeq, wIfS, wRet, wRetN, wNext, wDrop, wAsg, wAug, wBreak, wCont, wV, wC, wB, L3.wTru, L3.wNot, wAnd, wOr, wAndV, wOrV, wNotV, L3.wIf, wNeg, wOp, wCall, wQ, wML, wNil, wCons, wTup, wLst, wLstM, wIsi, wSl, wPart, wNoPart, wMinD, wJoin, wFrz, gN, sIx, sIs, sIsN, sI, sI0, truU, tyOk, tyU, isTruth, L3.isNon, itemsU, listU, ixU, qInt, qAbs, qStr, L3.max_int, start3, L3.kk_nb, L3.kk_nt, L3.kk_ni, L3.kk_ns, L3.kk_nl, L3.kk_bb, L3.kk_bt, L3.kk_bi, L3.kk_bs, L3.kk_bl, L3.kk_ib, L3.kk_it, L3.kk_ii, L3.kk_is, L3.kk_il, L3.kk_sb, L3.kk_st, L3.kk_si, L3.kk_ss, L3.kk_sl, L3.kk_tb, L3.kk_tt, L3.kk_ti, L3.kk_ts, L3.kk_tl, L3.kk_lb, L3.kk_lt, L3.kk_li, L3.kk_ls, L3.kk_ll, L3.at_0, L3.at_1, L3.at_2, L3.at_3, L3.eqA_int, L3.eqA_str, L3.eqA_bl, L3.lt_int, L3.gt_int, L3.le_int, L3.ge_int, L3.lt_str, L3.gt_str, L3.le_str, L3.ge_str, L3.add_int, L3.add_str, L3.exd, L3.exd0, L3.exd1, L3.exd2, L3.exd3, L3.exd4, L3.min_int, L3.min_str, L3.len_str, L3.len_lst, L3.len_tup, W_p_first_setting, T.d]
      exact fun p hp => go p hp)
/-! ### ordered_table -/
abbrev qOT : Str := "ordered_table" ++ ".<locals>." ++ "<lambda>"
def S_ord (Pt : Addr) : WF := fun us μ Q => ∃ (u : U) (names : List Str) (rows : List Ot.Row), us = [u] ∧ itemsU μ u = some ((Ot.tb names rows).map U.d) ∧ μ Pt = some (.tab qOT) ∧ Ot.Rs names rows ∧ names.length ≤ 6 ∧ rows.length ≤ 100 ∧
  ∀ out, out.Perm (rows.filter fun r => Ot.nf r.1) → Ot.Asc out → Q (.d (.tuple (Ot.tb names out))) μ
def S_sh : WF := fun us μ Q => ∃ (h : Addr) (xs : List PyData), us = [.r h, .d (.list xs)] ∧ μ h = some .hand ∧ xs.length ≤ 1000 ∧ ∀ ys : List PyData, ys.Perm xs → Q (.d (.list ys)) μ
theorem shuffled_ok (D : Dn K mg "_law_shuffled" s_l_shuffled) (D1 : Dn K mg "_law_take" s_l_take) (D2 : Dn K mg "_law_stirred" s_l_stirred) (m1 : mg "int" = none) (m2 : mg "len" = none) (m3 : mg "list" = none) (m4 : mg "range" = none) : C8.Cal P w K mg base 3 "_law_shuffled" (sp3 K S_sh) [] :=
  cal_l_shuffled D (c_l_take := take_ok D1 D2 m1 m2) (h_l_take := Nat.le_refl _) (m_list := m3) (m_len := m2) (m_range := m4) (len := fun us μ Q ⟨_, _, e, _⟩ => by rw [e]; rfl) (h := fun us μ Q ⟨h, xs, e, hh, hx, q⟩ => by
    subst e
    simp [wSeq, wIfS, wRet, wRetN, wNext, wDrop, wAsg, wAug, wBreak, wCont, wV, wC, wB, L3.wTru, L3.wNot, wAnd, wOr, wAndV, wOrV, wNotV, L3.wIf, wNeg, wOp, wCall, wQ, wML, wNil, wCons, wTup, wLst, wLstM, wIsi, wSl, wPart, wNoPart, wMinD, wJoin, wFrz, gN, sIx, sIs, sIsN, sI, sI0, truU, tyOk, tyU, isTruth, L3.isNon, itemsU, listU, ixU, qInt, qAbs, qStr, L3.max_int, start3, L3.kk_nb, L3.kk_nt, L3.kk_ni, L3.kk_ns, L3.kk_nl, L3.kk_bb, L3.kk_bt, L3.kk_bi, L3.kk_bs, L3.kk_bl, L3.kk_ib, L3.kk_it, L3.kk_ii, L3.kk_is, L3.kk_il, L3.kk_sb, L3.kk_st, L3.kk_si, L3.kk_ss, L3.kk_sl, L3.kk_tb, L3.kk_tt, L3.kk_ti, L3.kk_ts, L3.kk_tl, L3.kk_lb, L3.kk_lt, L3.kk_li, L3.kk_ls, L3.kk_ll, L3.at_0, L3.at_1, L3.at_2, L3.at_3, L3.eqA_int, L3.eqA_str, L3.eqA_bl, L3.lt_int, L3.gt_int, L3.le_int, L3.ge_int, L3.lt_str, L3.gt_str, L3.le_str, L3.ge_str, L3.add_int, L3.add_str, L3.exd, L3.exd0, L3.exd1, L3.exd2, L3.exd3, L3.exd4, L3.min_int, L3.min_str, L3.len_str, L3.len_lst, L3.len_tup, W_l_shuffled, wLc, jRng1, qListM]
    intro p hp
    have ph : h ≠ p := fun e => by rw [e, hp] at hh; cases hh
    have big : 5000 < sizeLine := by decide
    refine len_r put_same ⟨_, rfl, by omega, by simp; omega, lcGo_inv (fun j acc μ' => ∃ (l a : List PyData), acc = a.map U.d ∧ μ' = put μ p (.lst (l.map U.d)) ∧ (a ++ l).Perm xs ∧ a.length = j) ⟨xs, [], rfl, rfl, .refl _, rfl⟩ (fun _ _ _ _ => trivial) (fun j hj acc μ' N ⟨l, a, h1, h2, h3, h4⟩ hN => ?_) (fun acc μ' ⟨l, a, h1, h2, h3, h4⟩ => ?_)⟩
    · subst h1 h2
      have hl := h3.length_eq
      rw [List.length_append] at hl
      have hj : j < xs.length := by simpa using hj
      simp [wSeq, wIfS, wRet, wRetN, wNext, wDrop, wAsg, wAug, wBreak, wCont, wV, wC, wB, L3.wTru, L3.wNot, wAnd, wOr, wAndV, wOrV, wNotV, L3.wIf, wNeg, wOp, wCall, wQ, wML, wNil, wCons, wTup, wLst, wLstM, wIsi, wSl, wPart, wNoPart, wMinD, wJoin, wFrz, gN, sIx, sIs, sIsN, sI, sI0, truU, tyOk, tyU, isTruth, L3.isNon, itemsU, listU, ixU, qInt, qAbs, qStr, L3.max_int, start3, L3.kk_nb, L3.kk_nt, L3.kk_ni, L3.kk_ns, L3.kk_nl, L3.kk_bb, L3.kk_bt, L3.kk_bi, L3.kk_bs, L3.kk_bl, L3.kk_ib, L3.kk_it, L3.kk_ii, L3.kk_is, L3.kk_il, L3.kk_sb, L3.kk_st, L3.kk_si, L3.kk_ss, L3.kk_sl, L3.kk_tb, L3.kk_tt, L3.kk_ti, L3.kk_ts, L3.kk_tl, L3.kk_lb, L3.kk_lt, L3.kk_li, L3.kk_ls, L3.kk_ll, L3.at_0, L3.at_1, L3.at_2, L3.at_3, L3.eqA_int, L3.eqA_str, L3.eqA_bl, L3.lt_int, L3.gt_int, L3.le_int, L3.ge_int, L3.lt_str, L3.gt_str, L3.le_str, L3.ge_str, L3.add_int, L3.add_str, L3.exd, L3.exd0, L3.exd1, L3.exd2, L3.exd3, L3.exd4, L3.min_int, L3.min_str, L3.len_str, L3.len_lst, L3.len_tup, wipeR, wYes]
      refine ⟨isL_r put_same, len_r put_same ⟨h, _, rfl, by rw [put_ne ph]; exact hh, by simp; omega, by simp; omega, fun z z1 z2 => ?_⟩⟩
      obtain ⟨n, rfl⟩ := Int.eq_ofNat_of_zero_le z1
      have hn : n < l.length := by simpa using z2
      have si : seqIndex? (n : Int) (l.map U.d).length = some n := by
        unfold seqIndex?
        simp [hn]
        omega
      refine ⟨p, _, _, n, .d l[n], rfl, rfl, put_same, by omega, by omega, si, ?_, by omega, ?_⟩
      · simp [hn]
      · rw [put_put]
        have e3 : ((l.map U.d).eraseIdx n) = (l.eraseIdx n).map U.d := era_map U.d l n
        rw [e3]
        refine hN _ _ ⟨l.eraseIdx n, a ++ [l[n]], by simp, rfl, ?_, by simp [h4]⟩
        refine .trans ?_ h3
        rw [List.append_assoc]
        refine .append_left a ?_
        exact era_perm l n hn
    · subst h1 h2
      have hl := h3.length_eq
      have e3 : a.length = xs.length := by simpa using h4
      rw [List.length_append] at hl
      have e4 : l = [] := List.length_eq_zero_iff.mp (by omega)
      subst e4
      rw [List.append_nil] at h3
      refine ⟨a, rfl, rtD p (rtE ?_)⟩
      rw [del_put hp]
      exact q a h3)
theorem take_i2 {h : Addr} {μ : Mu} {Q : XP} (hh : μ h = some .hand) (q : ∀ y : Int, Q (.d (.int y)) μ) : S_take [.r h, .d (.int 2)] μ Q := ⟨h, 2, rfl, hh, by omega, by omega, fun y _ _ => q y⟩
def S_st2 : WF := fun us μ Q => ∃ (h : Addr) (xs : List PyData), us = [.r h, .d (.list xs)] ∧ μ h = some .hand ∧ xs.length ≤ 400 ∧ ∀ (v : PyData) (ys : List PyData), v = .list ys ∨ v = .tuple ys → (∀ z, z ∈ ys ↔ z ∈ xs) → ys.length ≤ 2 * xs.length → Q (.d v) μ
theorem cutG_sub {α : Type} {xs : List α} {lo hi : Option Int} {z : α} (h : z ∈ cutL xs lo hi) : z ∈ xs := by
  unfold cutL at h
  exact List.mem_of_mem_drop (List.mem_of_mem_take h)
theorem cutG_len {α : Type} {xs : List α} {lo hi : Option Int} : (cutL xs lo hi).length ≤ xs.length := by
  unfold cutL
  rw [List.length_take, List.length_drop]
  omega
theorem strewn_ok (D : Dn K mg "_law_strewn" s_l_strewn) (D0 : Dn K mg "_law_shuffled" s_l_shuffled) (D1 : Dn K mg "_law_take" s_l_take) (D2 : Dn K mg "_law_stirred" s_l_stirred) (m1 : mg "int" = none) (m2 : mg "len" = none) (m3 : mg "list" = none) (m4 : mg "range" = none) (m5 : mg "tuple" = none) : C8.Cal P w K mg base 4 "_law_strewn" (sp3 K S_st2) [] :=
  cal_l_strewn D (c_l_shuffled := shuffled_ok D0 D1 D2 m1 m2 m3 m4) (h_l_shuffled := Nat.le_refl _) (c_l_take := take_ok D1 D2 m1 m2) (h_l_take := by omega) (m_list := m3) (m_tuple := m5) (len := fun us μ Q ⟨_, _, e, _⟩ => by rw [e]; rfl) (h := fun us μ Q ⟨h, xs, e, hh, hx, q⟩ => by
    subst e
    have big : 1000 < sizeLine := by decide
    simp [wSeq, wIfS, wRet, wRetN, wNext, wDrop, wAsg, wAug, wBreak, wCont, wV, wC, wB, L3.wTru, L3.wNot, wAnd, wOr, wAndV, wOrV, wNotV, L3.wIf, wNeg, wOp, wCall, wQ, wML, wNil, wCons, wTup, wLst, wLstM, wIsi, wSl, wPart, wNoPart, wMinD, wJoin, wFrz, gN, sIx, sIs, sIsN, sI, sI0, truU, tyOk, tyU, isTruth, L3.isNon, itemsU, listU, ixU, qInt, qAbs, qStr, L3.max_int, start3, L3.kk_nb, L3.kk_nt, L3.kk_ni, L3.kk_ns, L3.kk_nl, L3.kk_bb, L3.kk_bt, L3.kk_bi, L3.kk_bs, L3.kk_bl, L3.kk_ib, L3.kk_it, L3.kk_ii, L3.kk_is, L3.kk_il, L3.kk_sb, L3.kk_st, L3.kk_si, L3.kk_ss, L3.kk_sl, L3.kk_tb, L3.kk_tt, L3.kk_ti, L3.kk_ts, L3.kk_tl, L3.kk_lb, L3.kk_lt, L3.kk_li, L3.kk_ls, L3.kk_ll, L3.at_0, L3.at_1, L3.at_2, L3.at_3, L3.eqA_int, L3.eqA_str, L3.eqA_bl, L3.lt_int, L3.gt_int, L3.le_int, L3.ge_int, L3.lt_str, L3.gt_str, L3.le_str, L3.ge_str, L3.add_int, L3.add_str, L3.exd, L3.exd0, L3.exd1, L3.exd2, L3.exd3, L3.exd4, L3.min_int, L3.min_str, L3.len_str, L3.len_lst, L3.len_tup, W_l_strewn, qList]
    refine ⟨h, 3, rfl, hh, by omega, by omega, fun z z1 z2 => ⟨z, rfl, ?_⟩⟩
    have lc := cutG_len (xs := xs) (lo := none) (hi := some z)
    refine add_lst (by omega) ⟨h, xs ++ cutL xs none (some z), rfl, hh, by rw [List.length_append]; omega, fun ys p => ?_⟩
    have mem : ∀ z', z' ∈ ys ↔ z' ∈ xs := fun z' => by
      rw [p.mem_iff, List.mem_append]
      exact ⟨fun h => h.elim id cutG_sub, .inl⟩
    have ln : ys.length ≤ 2 * xs.length := by rw [p.length_eq, List.length_append]; omega
    refine take_i2 hh fun y => ?_
    simp [wSeq, wIfS, wRet, wRetN, wNext, wDrop, wAsg, wAug, wBreak, wCont, wV, wC, wB, L3.wTru, L3.wNot, wAnd, wOr, wAndV, wOrV, wNotV, L3.wIf, wNeg, wOp, wCall, wQ, wML, wNil, wCons, wTup, wLst, wLstM, wIsi, wSl, wPart, wNoPart, wMinD, wJoin, wFrz, gN, sIx, sIs, sIsN, sI, sI0, truU, tyOk, tyU, isTruth, L3.isNon, itemsU, listU, ixU, qInt, qAbs, qStr, L3.max_int, start3, L3.kk_nb, L3.kk_nt, L3.kk_ni, L3.kk_ns, L3.kk_nl, L3.kk_bb, L3.kk_bt, L3.kk_bi, L3.kk_bs, L3.kk_bl, L3.kk_ib, L3.kk_it, L3.kk_ii, L3.kk_is, L3.kk_il, L3.kk_sb, L3.kk_st, L3.kk_si, L3.kk_ss, L3.kk_sl, L3.kk_tb, L3.kk_tt, L3.kk_ti, L3.kk_ts, L3.kk_tl, L3.kk_lb, L3.kk_lt, L3.kk_li, L3.kk_ls, L3.kk_ll, L3.at_0, L3.at_1, L3.at_2, L3.at_3, L3.eqA_int, L3.eqA_str, L3.eqA_bl, L3.lt_int, L3.gt_int, L3.le_int, L3.ge_int, L3.lt_str, L3.gt_str, L3.le_str, L3.ge_str, L3.add_int, L3.add_str, L3.exd, L3.exd0, L3.exd1, L3.exd2, L3.exd3, L3.exd4, L3.min_int, L3.min_str, L3.len_str, L3.len_lst, L3.len_tup]
    by_cases hy : y = 0
    · exact .inr ⟨hy, _, ys, rfl, rfl, rtE (q _ ys (.inr rfl) mem ln)⟩
    · exact .inl ⟨hy, rtE (q _ ys (.inl rfl) mem ln)⟩)
/-! ### truths in a row -/
def tr (row : List Bool) : Nat := (row.filter id).length
theorem tr_app {a b : List Bool} : tr (a ++ b) = tr a + tr b := by unfold tr; rw [List.filter_append, List.length_append]
theorem cnt_up : ∀ {c : T} {f : Nat}, c.h ≤ f → cnt c (f + 1) = 2 * cnt c f
  | .lit b, f, _ => by
    unfold cnt
    split
    · rw [Nat.pow_succ]; omega
    · rfl
  | .nd s a b, f, h => by
    unfold T.h at h
    have h1 := cnt_up (c := a) (f := f - 1) (by omega)
    have h2 := cnt_up (c := b) (f := f - 1) (by omega)
    rw [show f - 1 + 1 = f by omega] at h1 h2
    rw [cnt, cnt, Nat.add_sub_cancel, h1, h2]
    omega
theorem cnt_node {x : Str} {a b : T} {n : Nat} (h : a.h ≤ n) : cnt (node x a b) (n + 1) = cnt a n + cnt b n := by
  by_cases e : a = b
  · rw [node_eq e, cnt_up h, ← e]; omega
  · rw [node_ne e, cnt, Nat.add_sub_cancel]
theorem cnt_form : ∀ {names : List Str} {row : List Bool}, row.length = 2 ^ names.length → cnt (form names row) names.length = tr row
  | [], row, h => by
    have h : row.length = 1 := h
    match row, h with
    | [b], _ => cases b <;> rfl
  | x :: xs, row, h => by
    have h' : row.length = 2 ^ xs.length + 2 ^ xs.length := by rw [h, List.length_cons, Nat.pow_succ]; omega
    have l1 : (row.take (row.length / 2)).length = 2 ^ xs.length := by rw [List.length_take]; omega
    have l2 : (row.drop (row.length / 2)).length = 2 ^ xs.length := by rw [List.length_drop]; omega
    have e : tr row = tr (row.take (row.length / 2)) + tr (row.drop (row.length / 2)) := by rw [← tr_app, List.take_append_drop]
    rw [e]
    show cnt (node x (form xs (row.drop (row.length / 2))) (form xs (row.take (row.length / 2)))) (xs.length + 1) = _
    rw [cnt_node form_h, cnt_form l1, cnt_form l2, Nat.add_comm]
/-! ### the good settings -/
def good : List Bool → List (List Str) → List (List Str)
  | b :: row, s :: S => if b = true then s :: good row S else good row S
  | _, _ => []
theorem good_len : ∀ {row : List Bool} {S : List (List Str)}, row.length = S.length → (good row S).length = tr row
  | [], [], _ => rfl
  | b :: row, s :: S, h => by
    have ih := good_len (row := row) (S := S) (by simpa using h)
    cases b with
    | true => show (s :: good row S).length = _; rw [List.length_cons, ih]; rfl
    | false => exact ih
theorem good_mem : ∀ {row : List Bool} {S : List (List Str)} {r : List Str}, r ∈ good row S ↔ ∃ k : Nat, row[k]? = some true ∧ S[k]? = some r
  | [], S, r => by simp [good]
  | b :: row, [], r => by simp [good]
  | b :: row, s :: S, r => by
    have ih := good_mem (row := row) (S := S) (r := r)
    constructor
    · intro h
      cases b with
      | true =>
        rcases List.mem_cons.mp (show r ∈ s :: good row S from h) with rfl | h
        · exact ⟨0, rfl, rfl⟩
        · obtain ⟨k, h1, h2⟩ := ih.mp h
          exact ⟨k + 1, h1, h2⟩
      | false =>
        obtain ⟨k, h1, h2⟩ := ih.mp h
        exact ⟨k + 1, h1, h2⟩
    · rintro ⟨k, h1, h2⟩
      cases k with
      | zero =>
        cases h1
        cases h2
        exact List.mem_cons_self ..
      | succ k =>
        have := ih.mpr ⟨k, h1, h2⟩
        cases b with
        | true => exact List.mem_cons_of_mem _ this
        | false => exact this
theorem good_take : ∀ {row : List Bool} {S : List (List Str)} {j : Nat} (h1 : j < row.length) (h2 : j < S.length), good (row.take (j + 1)) (S.take (j + 1)) = good (row.take j) (S.take j) ++ if row[j] = true then [S[j]] else []
  | b :: row, s :: S, 0, _, _ => by
    show (if b = true then s :: good [] [] else good [] []) = [] ++ if b = true then [s] else []
    cases b <;> rfl
  | b :: row, s :: S, j + 1, h1, h2 => by
    have ih := good_take (row := row) (S := S) (j := j) (by simpa using h1) (by simpa using h2)
    show (if b = true then s :: good (row.take (j + 1)) (S.take (j + 1)) else good (row.take (j + 1)) (S.take (j + 1))) = (if b = true then s :: good (row.take j) (S.take j) else good (row.take j) (S.take j)) ++ _
    rw [ih]
    cases b <;> rfl
theorem good_head : ∀ {row : List Bool} {S : List (List Str)}, row.length = S.length → Ot.nf row = true → (good row S)[0]? = S[Ot.fst row]?
  | [], _, _, h => (nomatch h)
  | b :: row, s :: S, h, hn => by
    cases b with
    | true => rfl
    | false =>
      have hn : Ot.nf row = true := hn
      have e : Ot.fst (false :: row) = Ot.fst row + 1 := by unfold Ot.fst; rw [List.findIdx_cons]; rfl
      rw [e, List.getElem?_cons_succ]
      exact good_head (row := row) (S := S) (by simpa using h) hn
theorem good_nil {row : List Bool} {S : List (List Str)} (h : row.length = S.length) : Ot.nf row = false ↔ good row S = [] := by
  constructor
  · intro hn
    refine List.eq_nil_iff_forall_not_mem.mpr fun r hr => ?_
    obtain ⟨k, h1, _⟩ := good_mem.mp hr
    have := List.getElem?_eq_some_iff.mp h1
    have : Ot.nf row = true := List.any_eq_true.mpr ⟨true, by rw [← this.2]; exact List.getElem_mem _, rfl⟩
    rw [hn] at this
    cases this
  · intro hg
    cases hn : Ot.nf row with
    | false => rfl
    | true =>
      have h1 := good_head h hn
      have h2 := Ot.fst_lt hn
      have h3 := List.getElem?_eq_getElem (show Ot.fst row < S.length by omega)
      rw [hg, h3] at h1
      cases h1
/-- the least setting is the first good one -/
theorem fst_sets : ∀ {names : List Str} {row : List Bool}, Srt names → row.length = 2 ^ names.length → Ot.nf row = true → (sets names)[Ot.fst row]? = some (Ot.ons (form names row))
  | [], row, _, h, n => by
    have h : row.length = 1 := h
    match row, h with
    | [b], _ =>
      have hb : b = true := by simpa [Ot.nf] using n
      subst hb
      rfl
  | x :: xs, row, hs, h, n => by
    have hs' := List.pairwise_cons.mp hs
    have h' : row.length = 2 ^ xs.length + 2 ^ xs.length := by rw [h, List.length_cons, Nat.pow_succ]; omega
    have l1 : (row.take (row.length / 2)).length = 2 ^ xs.length := by rw [List.length_take]; omega
    have l2 : (row.drop (row.length / 2)).length = 2 ^ xs.length := by rw [List.length_drop]; omega
    have ea : row = row.take (row.length / 2) ++ row.drop (row.length / 2) := (List.take_append_drop _ _).symm
    have efs : Ot.fst row = if Ot.nf (row.take (row.length / 2)) = true then Ot.fst (row.take (row.length / 2)) else Ot.fst (row.drop (row.length / 2)) + 2 ^ xs.length := by
      conv => lhs; rw [ea, Ot.fst_app, l1]
    have en : (Ot.nf (row.take (row.length / 2)) || Ot.nf (row.drop (row.length / 2))) = true := by rw [← Ot.nf_app, ← ea]; exact n
    rw [efs]
    show (sets xs ++ (sets xs).map fun r => x :: r)[_]? = some (Ot.ons (node x (form xs (row.drop (row.length / 2))) (form xs (row.take (row.length / 2)))))
    generalize row.take (row.length / 2) = lo at *
    generalize row.drop (row.length / 2) = hi at *
    have low : Ot.nf lo = true → (sets xs ++ (sets xs).map fun r => x :: r)[Ot.fst lo]? = some (Ot.ons (form xs lo)) := fun k => by
      have := Ot.fst_lt k
      rw [List.getElem?_append_left (by rw [sets_len]; omega)]
      exact fst_sets hs'.2 l1 k
    by_cases c : form xs hi = form xs lo
    · have e := Ot.form_inj hs'.2 l2 l1 c
      subst e
      have k : Ot.nf hi = true := by simpa using en
      rw [node_eq rfl, if_pos k]
      exact low k
    · rw [node_ne c]
      by_cases k : Ot.nf lo = true
      · rw [if_pos k, Ot.ons_off fun e => by rw [Ot.form_false hs'.2 l1, k] at e; cases e]
        exact low k
      · have k' : Ot.nf lo = false := by simpa using k
        have kh : Ot.nf hi = true := by rw [k'] at en; simpa using en
        rw [if_neg k, (Ot.form_false hs'.2 l1).mpr k', Ot.ons_on, List.getElem?_append_right (by rw [sets_len]; omega), sets_len, Nat.add_sub_cancel, List.getElem?_map, fst_sets hs'.2 l2 kh]
        rfl
end
end K01

/-! the law's mathematics: listed settings say what the row says -/
namespace K01
open PySem PySem.Spec PyProof.Rows L2 L3 Cn
theorem sets_srt : ∀ {xs r : List Str}, Srt xs → r ∈ sets xs → Srt r
  | [], r, _, h => by
    have h : r = [] := by simpa [sets] using h
    subst h
    exact List.Pairwise.nil
  | x :: xs, r, hs, h => by
    have hs := List.pairwise_cons.mp hs
    rcases List.mem_append.mp h with h | h
    · exact sets_srt hs.2 h
    · obtain ⟨t, h1, rfl⟩ := List.mem_map.mp h
      exact List.pairwise_cons.mpr ⟨fun y hy => hs.1 y (sets_mem h1 y hy), sets_srt hs.2 h1⟩
theorem idx_inj {a b : List Bool} (h : a.length = b.length) (e : idx a = idx b) : a = b := by
  rw [← bitsOf_idx a, ← bitsOf_idx b, h, e]
theorem sets_at {names : List Str} (hs : Srt names) (σ : Str → Bool) : ∃ r, (sets names)[idx (names.map σ)]? = some r ∧ ∀ x ∈ names, decide (x ∈ r) = σ x := by
  have l := idx_lt (names.map σ)
  rw [List.length_map] at l
  have l2 : idx (names.map σ) < (sets names).length := by rw [sets_len]; exact l
  refine ⟨(sets names)[idx (names.map σ)], List.getElem?_eq_getElem l2, ?_⟩
  have e := sets_idx hs (List.getElem?_eq_getElem l2)
  have e2 := idx_inj (by simp) e
  exact List.map_inj_left.mp e2
structure SameR (R G : List (List Str)) : Prop where
  a : ∀ r' ∈ R, ∃ r ∈ G, ∀ z, z ∈ r' ↔ z ∈ r
  b : ∀ r ∈ G, ∃ r' ∈ R, ∀ z, z ∈ r' ↔ z ∈ r
theorem lst_ev2 {xs : List Str} {R G : List (List Str)} (S : SameR R G) (σ : Str → Bool) : (lst xs R).ev σ = true ↔ ∃ r ∈ G, ∀ x ∈ xs, decide (x ∈ r) = σ x := by
  rw [lst_ev]
  constructor
  · rintro ⟨r', h1, h2⟩
    obtain ⟨r, h3, h4⟩ := S.a r' h1
    exact ⟨r, h3, fun x hx => by rw [← h2 x hx]; exact decide_eq_decide.mpr (h4 x).symm⟩
  · rintro ⟨r, h1, h2⟩
    obtain ⟨r', h3, h4⟩ := S.b r h1
    exact ⟨r', h3, fun x hx => by rw [← h2 x hx]; exact decide_eq_decide.mpr (h4 x)⟩
theorem lk_true {row : List Bool} {k : Nat} : lk row k = true ↔ row[k]? = some true := by
  unfold lk
  cases row[k]? with
  | none => exact ⟨fun h => (nomatch h), fun h => (nomatch h)⟩
  | some b => exact ⟨fun h => congrArg some h, fun h => Option.some.inj h⟩
theorem back_ok {names : List Str} {row : List Bool} {R : List (List Str)} (hs : Srt names) (hl : row.length = 2 ^ names.length) (S : SameR R (good row (sets names))) : lst names R = form names row :=
  form_uni hs hl (lst_ab hs).1 fun σ => Bool.eq_iff_iff.mpr (by
    rw [lst_ev2 S, lk_true]
    constructor
    · rintro ⟨r, h1, h2⟩
      obtain ⟨k, h3, h4⟩ := good_mem.mp h1
      have e := sets_idx hs h4
      rw [List.map_congr_left h2] at e
      rw [e]
      exact h3
    · intro h
      obtain ⟨r, h1, h2⟩ := sets_at hs σ
      exact ⟨r, good_mem.mpr ⟨_, h, h1⟩, h2⟩)
theorem good_sub {names : List Str} {row : List Bool} {r : List Str} (h : r ∈ good row (sets names)) : r ∈ sets names := by
  obtain ⟨k, _, h4⟩ := good_mem.mp h
  exact List.mem_of_getElem? h4
abbrev Q9 : Str := Str.ofString "Q9"
theorem filt_id {s : List Str} (h : Q9 ∉ s) : s.filter (fun z => decide (z ≠ Q9)) = s := List.filter_eq_self.mpr fun z hz => decide_eq_true fun e => h (e ▸ hz)
theorem wide_ok {names W : List Str} {row sp : List Bool} {R : List (List Str)} (hs : Srt names) (hW : Srt W) (hm : ∀ z, z ∈ W ↔ z ∈ names ∨ z = Q9) (hq : Q9 ∉ names) (S : SameR R (good row (sets names))) (hsp : sp.length = 2 ^ W.length)
    (h2 : ∀ (k : Nat) (s : List Str), (sets W)[k]? = some s → sp[k]? = some (!decide (Q9 ∈ s) && decide (s.filter (fun z => decide (z ≠ Q9)) ∈ good row (sets names)))) : lst W R = form W sp :=
  form_uni hW hsp (lst_ab hW).1 fun σ => Bool.eq_iff_iff.mpr (by
    rw [lst_ev2 S, lk_true]
    obtain ⟨s, k1, k2⟩ := sets_at hW σ
    rw [h2 _ s k1]
    have s1 := sets_srt hW (List.mem_of_getElem? k1)
    constructor
    · rintro ⟨r, h1, h3⟩
      have r1 := good_sub h1
      have qr : Q9 ∉ r := fun h => hq (sets_mem r1 _ h)
      have q9 : Q9 ∈ W := (hm _).mpr (.inr rfl)
      have qs : Q9 ∉ s := fun h => by
        have e1 := k2 Q9 q9
        rw [← h3 Q9 q9, decide_eq_true h, decide_eq_false qr] at e1
        cases e1
      have e : s = r := srt_ext s1 (sets_srt hs r1) fun z => by
        constructor
        · intro hz
          have hw := sets_mem (List.mem_of_getElem? k1) z hz
          have e1 := k2 z hw
          rw [← h3 z hw, decide_eq_true hz] at e1
          exact of_decide_eq_true e1.symm
        · intro hz
          have hw : z ∈ W := (hm z).mpr (.inl (sets_mem r1 z hz))
          have e1 := h3 z hw
          rw [← k2 z hw, decide_eq_true hz] at e1
          exact of_decide_eq_true e1.symm
      rw [decide_eq_false qs, filt_id qs, e, decide_eq_true h1]
      rfl
    · intro h
      have h := Option.some.inj h
      rw [Bool.and_eq_true] at h
      have qs : Q9 ∉ s := by simpa using h.1
      have h4 := of_decide_eq_true h.2
      rw [filt_id qs] at h4
      exact ⟨s, h4, k2⟩)
/-! ### how long a list of rows is told -/
structure Sh (d : PyData) (n : Nat) : Prop where
  l : d.leavesShort 13 = true
  b : d.bulk + 1 ≤ n
  s : d.showable = true
  c : d.canLay0 = true
structure Shl (ds : List PyData) (n : Nat) : Prop where
  l : PyData.leavesShortAll 13 ds = true
  b : PyData.bulkAll ds ≤ n
  s : PyData.showableAll ds = true
  c : PyData.canLayAll0 ds = true
theorem Shl.cons {d : PyData} {ds : List PyData} {n m : Nat} (h : Sh d n) (k : Shl ds m) : Shl (d :: ds) (n + m) :=
  ⟨by rw [PyData.leavesShortAll, h.l, k.l]; rfl, by have := h.b; have := k.b; rw [PyData.bulkAll]; omega, by rw [PyData.showableAll, h.s, k.s]; rfl, by rw [PyData.canLayAll0, h.c, k.c]; rfl⟩
theorem Shl.nil : Shl [] 0 := ⟨rfl, Nat.le_refl _, rfl, rfl⟩
theorem Shl.tup {ds : List PyData} {n : Nat} (h : Shl ds n) : Sh (.tuple ds) (n + 1) := ⟨by rw [PyData.leavesShort]; exact h.l, by have := h.b; rw [PyData.bulk]; omega, by rw [PyData.showable]; exact h.s, by rw [PyData.canLay0]; exact h.c⟩
theorem Shl.lst {ds : List PyData} {n : Nat} (h : Shl ds n) : Sh (.list ds) (n + 1) := ⟨by rw [PyData.leavesShort]; exact h.l, by have := h.b; rw [PyData.bulk]; omega, by rw [PyData.showable]; exact h.s, by rw [PyData.canLay0]; exact h.c⟩
/-- a short text -/
def Tx (z : Str) : Prop := PyData.strOk z = true ∧ z.length ≤ 10
theorem Sh.str {x : Str} (h : Tx x) : Sh (.str x) 11 := ⟨by
  have h1 := h.1
  show (x.cps.toList.all fun c => decide (c < 16 ^ 8)) = true
  unfold PyData.strOk at h1
  rw [Array.all_eq_true_iff_forall_mem] at h1
  rw [List.all_eq_true]
  intro c hc
  have := h1 c (by simpa using hc)
  simp at this ⊢
  omega, by have h2 : x.cps.size ≤ 10 := h.2; rw [PyData.bulk]; omega, rfl, by rw [PyData.canLay0]; exact h.1⟩
theorem Sh.mono {d : PyData} {n m : Nat} (h : Sh d n) (k : n ≤ m) : Sh d m := ⟨h.l, Nat.le_trans h.b k, h.s, h.c⟩
theorem sl_shl : ∀ {zs : List Str}, (∀ z ∈ zs, Tx z) → Shl (sl zs) (11 * zs.length)
  | [], _ => Shl.nil
  | z :: zs, h => by
    have := Shl.cons (.str (h z (List.mem_cons_self ..))) (sl_shl fun y hy => h y (List.mem_cons_of_mem _ hy))
    show Shl (.str z :: sl zs) (11 * (zs.length + 1))
    exact ⟨this.l, by have := this.b; omega, this.s, this.c⟩
theorem row_sh {v : PyData} {zs : List Str} (h : SqS v zs) (k : ∀ z ∈ zs, Tx z) (l : zs.length ≤ 20) : Sh v 222 := by
  rcases h with rfl | rfl
  · exact (sl_shl k).lst.mono (by omega)
  · exact (sl_shl k).tup.mono (by omega)
def RwOk (Rs : List Row) : Prop := ∀ q ∈ Rs, SqS q.1 q.2 ∧ q.2.length ≤ 20 ∧ ∀ z ∈ q.2, Tx z
theorem rd_shl : ∀ {Rs : List Row}, RwOk Rs → Shl (rd Rs) (222 * Rs.length)
  | [], _ => Shl.nil
  | q :: Rs, h => by
    obtain ⟨h1, h2, h3⟩ := h q (List.mem_cons_self ..)
    have := Shl.cons (row_sh h1 h3 h2) (rd_shl fun y hy => h y (List.mem_cons_of_mem _ hy))
    show Shl (q.1 :: rd Rs) (222 * (Rs.length + 1))
    exact ⟨this.l, by have := this.b; omega, this.s, this.c⟩
theorem row_dep {v : PyData} {zs : List Str} (h : SqS v zs) : v.depth ≤ 1 := by
  rcases h with rfl | rfl <;> rw [PyData.depth, depth_sl] <;> exact Nat.le_refl _
theorem rd_dep : ∀ {Rs : List Row}, RwOk Rs → PyData.depthAll (rd Rs) ≤ 1
  | [], _ => Nat.zero_le _
  | q :: Rs, h => by
    have h1 := row_dep (h q (List.mem_cons_self ..)).1
    have h2 := rd_dep (Rs := Rs) fun y hy => h y (List.mem_cons_of_mem _ hy)
    show PyData.depthAll (q.1 :: rd Rs) ≤ 1
    rw [PyData.depthAll]
    omega
theorem rows_repr {Rs : List Row} (h : RwOk Rs) (l : Rs.length ≤ 100) : (PyData.list (rd Rs)).showable = true ∧ (PyData.list (rd Rs)).hasDict = false ∧ (PyData.list (rd Rs)).depth ≤ 190 ∧ (PyData.list (rd Rs)).shown.length ≤ sizeLine := by
  have s := (rd_shl h).lst
  refine ⟨s.s, PyData.hasDict_of_canLay _ s.c, by have := rd_dep h; rw [PyData.depth]; omega, ?_⟩
  have := PyData.shown_le_bulk 13 (by decide) (PyData.list (rd Rs)) s.l
  have b := s.b
  have z : sizeLine = 16777216 := by decide
  rw [z]
  omega
/-! ### rows among rows -/
theorem eqvA_sl : ∀ {a b : List Str}, PyData.eqvAll (sl a) (sl b) = true ↔ a = b
  | [], [] => ⟨fun _ => rfl, fun _ => rfl⟩
  | [], _ :: _ => ⟨fun h => (nomatch h), fun h => (nomatch h)⟩
  | _ :: _, [] => ⟨fun h => (nomatch h), fun h => (nomatch h)⟩
  | x :: a, y :: b => by
    have ih := eqvA_sl (a := a) (b := b)
    show PyData.eqvAll (.str x :: sl a) (.str y :: sl b) = true ↔ _
    rw [PyData.eqvAll, Bool.and_eq_true, ih]
    show (x == y) = true ∧ a = b ↔ _
    rw [beq_iff_eq]
    exact ⟨fun ⟨h1, h2⟩ => by rw [h1, h2], fun h => by cases h; exact ⟨rfl, rfl⟩⟩
theorem any_rows {G : List (List Str)} {s : List Str} : ((sd2 G).any fun z => PyData.eqv z (.list (sl s))) = decide (s ∈ G) := by
  refine Bool.eq_iff_iff.mpr ?_
  rw [List.any_eq_true, decide_eq_true_iff]
  constructor
  · rintro ⟨x, hx, h⟩
    obtain ⟨r, hr, rfl⟩ := List.mem_map.mp hx
    have h : PyData.eqvAll (sl r) (sl s) = true := h
    rw [eqvA_sl] at h
    rw [← h]
    exact hr
  · intro h
    exact ⟨_, List.mem_map.mpr ⟨s, h, rfl⟩, eqvA_sl.mpr rfl⟩
theorem any_str {s : List Str} {x : Str} : ((sl s).any fun z => PyData.eqv z (.str x)) = decide (x ∈ s) := by
  refine Bool.eq_iff_iff.mpr ?_
  rw [List.any_eq_true, decide_eq_true_iff]
  constructor
  · rintro ⟨d, hd, h⟩
    obtain ⟨y, hy, rfl⟩ := List.mem_map.mp hd
    have h : (y == x) = true := h
    rw [beq_iff_eq] at h
    rw [← h]
    exact hy
  · intro h
    exact ⟨_, List.mem_map.mpr ⟨x, h, rfl⟩, by show (x == x) = true; exact beq_self_eq_true x⟩
theorem shp_sl {s : List Str} (h : ∀ z ∈ s, Tx z) : SeqAt.shaped (.list (sl s)) = true := by
  unfold SeqAt.shaped
  rw [(sl_shl h).lst.c, PyData.depth, depth_sl]
  rfl
theorem sd2_shl : ∀ {G : List (List Str)}, (∀ r ∈ G, ∀ z ∈ r, Tx z) → PyData.canLayAll0 (sd2 G) = true ∧ PyData.depthAll (sd2 G) ≤ 1
  | [], _ => ⟨rfl, Nat.zero_le _⟩
  | r :: G, h => by
    obtain ⟨h1, h2⟩ := sd2_shl (G := G) fun y hy => h y (List.mem_cons_of_mem _ hy)
    have h3 := (sl_shl (h r (List.mem_cons_self ..))).lst.c
    constructor
    · show PyData.canLayAll0 (.list (sl r) :: sd2 G) = true
      rw [PyData.canLayAll0, h3, h1]; rfl
    · show PyData.depthAll (.list (sl r) :: sd2 G) ≤ 1
      rw [PyData.depthAll, PyData.depth, depth_sl]
      omega
theorem shp_sd2 {G : List (List Str)} (h : ∀ r ∈ G, ∀ z ∈ r, Tx z) : SeqAt.shaped (.list (sd2 G)) = true := by
  obtain ⟨h1, h2⟩ := sd2_shl h
  unfold SeqAt.shaped
  rw [PyData.canLay0, h1, PyData.depth]
  simp
  omega
end K01

/-! the law behind its look at the least setting -/
namespace K01
open PySem PySem.Spec PyProof.Rows L2 L3 Cn
theorem str_rows {v : PyData} {ys : List PyData} {xs : List Str} (hv : v = .list ys ∨ v = .tuple ys) (hm : ∀ z, z ∈ ys ↔ z ∈ sl xs) : ∃ zs, SqS v zs ∧ (∀ z, z ∈ zs ↔ z ∈ xs) ∧ zs.length = ys.length := by
  have e : ∃ zs, ys = sl zs := by
    have key : ∀ ys : List PyData, (∀ z ∈ ys, z ∈ sl xs) → ∃ zs, ys = sl zs := by
      intro ys
      induction ys with
      | nil => exact fun _ => ⟨[], rfl⟩
      | cons y ys ih =>
        intro h
        obtain ⟨zs, e⟩ := ih fun z hz => h z (List.mem_cons_of_mem _ hz)
        obtain ⟨x, _, rfl⟩ := List.mem_map.mp (h y (List.mem_cons_self ..))
        exact ⟨x :: zs, by rw [e]; rfl⟩
    exact key ys fun z hz => (hm z).mp hz
  obtain ⟨zs, rfl⟩ := e
  refine ⟨zs, hv, fun z => ?_, by rw [sl_len]⟩
  have inj : ∀ l : List Str, PyData.str z ∈ sl l ↔ z ∈ l := fun l => by
    constructor
    · intro h
      obtain ⟨y, hy, e⟩ := List.mem_map.mp h
      cases e
      exact hy
    · exact fun h => List.mem_map.mpr ⟨z, h, rfl⟩
  rw [← inj, ← inj]
  exact hm _
def td (S : List (List Str)) : List PyData := S.map fun r => .tuple (sl r)
theorem td_gd : ∀ {S : List (List Str)}, (∀ r ∈ S, r.length ≤ 100) → gds (td S)
  | [], _ => by unfold td gds; trivial
  | r :: S, h => by
    show gds (.tuple (sl r) :: td S)
    rw [gds, gd]
    exact ⟨⟨by rw [sl_len]; have := h r (List.mem_cons_self ..); omega, gds_sl r⟩, td_gd fun y hy => h y (List.mem_cons_of_mem _ hy)⟩
theorem td_dep : ∀ {S : List (List Str)}, PyData.depthAll (td S) ≤ 1
  | [] => Nat.zero_le _
  | r :: S => by
    have := td_dep (S := S)
    show PyData.depthAll (.tuple (sl r) :: td S) ≤ 1
    rw [PyData.depthAll, PyData.depth, depth_sl]
    omega
/-- the law behind its look at the least setting -/
def lawR (S_l_settings : WF) (S_l_form : WF) (S_l_strewn : WF) (S_l_alike : WF) (S_p_count_settings : WF) (S_p_from_settings : WF) : WSt :=
  (wSeq (wAsg (wLc (jSeq (wV 7)) [14] (gN 14) wYes (wCall S_l_strewn (wCons (wV 1) (wCons (wV 14) wNil)))) (gN 9))
  (wSeq (wAsg (wQ qRepr (wCons (wV 9) wNil)) (gN 10))
  (wSeq (wAsg (wCall S_p_from_settings (wCons (wCall S_l_strewn (wCons (wV 1) (wCons (wV 9) wNil))) (wCons (wCall S_l_strewn (wCons (wV 1) (wCons (wV 2) wNil))) wNil))) (gN 11))
  (wSeq (wIfS (wOr (wB (wOp (sEqA not) (wQ qRepr (wCons (wV 9) wNil)) (wV 10))) (wNot (wTru (wCall S_l_alike (wCons (wV 11) (wCons (wV 5) wNil)))))) (wRet (wC (.bool false))) wNext)
  (wSeq (wAsg (wQ qSortA (wCons (wOp sAdd (wV 2) (wLst (wCons (wC (.str (Str.ofString "Q9"))) wNil))) wNil)) (gN 12))
  (wSeq (wIfS (wNot (wTru (wCall S_l_alike (wCons (wCall S_p_count_settings (wCons (wV 5) (wCons (wCall S_l_strewn (wCons (wV 1) (wCons (wV 12) wNil))) wNil))) (wCons (wOp sMul (wC (.int 2)) (wQ qLenA (wCons (wV 7) wNil))) wNil))))) (wRet (wC (.bool false))) wNext)
  (wSeq (wAsg (wLstM wNil) (gN 13))
  (wSeq (wFor (jSeq (wCall S_l_settings (wCons (wV 12) wNil))) (gN 14) (wSeq (wAsg (wLc (jSeq (wV 14)) [17] (gN 17) (wB (wOp (sEqA not) (wV 17) (wC (.str (Str.ofString "Q9"))))) (wV 17)) (gN 15))
  (wDrop (wML mAppend (wV 13) (wCons (wAndV (wOp (sInD not) (wC (.str (Str.ofString "Q9"))) (wV 14)) (wOp (sInD id) (wV 15) (wV 7))) wNil)))))
  (wFrz 13 (wRet (wCall S_l_alike (wCons (wCall S_p_from_settings (wCons (wV 9) (wCons (wCall S_l_strewn (wCons (wV 1) (wCons (wV 12) wNil))) wNil))) (wCons (wCall S_l_form (wCons (wV 12) (wCons (wV 13) wNil))) wNil)))))))))))))
theorem sl_inj : ∀ {a b : List Str}, sl a = sl b → a = b
  | [], [], _ => rfl
  | [], _ :: _, e => by cases e
  | _ :: _, [], e => by cases e
  | x :: a, y :: b, e => by
    have e : PyData.str x :: sl a = PyData.str y :: sl b := e
    have h := List.cons.inj e
    rw [sl_inj h.2, PyData.str.inj h.1]
theorem SqS.uniq {v : PyData} {a b : List Str} (h : SqS v a) (k : SqS v b) : a = b := by
  rcases h with rfl | rfl
  · rcases k with k | k
    · exact sl_inj (PyData.list.inj k)
    · cases k
  · rcases k with k | k
    · cases k
    · exact sl_inj (PyData.tuple.inj k)
/-- rows strewn -/
theorem row_rows {v : PyData} {ys : List PyData} {Rs : List Row} {G : List (List Str)} (hv : v = .list ys ∨ v = .tuple ys) (hm : ∀ z, z ∈ ys ↔ z ∈ rd Rs) (ok : RwOk Rs) (S : SameR (rr Rs) G) : ∃ Rs', SqR v Rs' ∧ Rs'.length = ys.length ∧ SameR (rr Rs') G := by
  have key : ∀ ys : List PyData, (∀ z ∈ ys, z ∈ rd Rs) → ∃ Rs', ys = rd Rs' ∧ ∀ q ∈ Rs', q ∈ Rs := by
    intro ys
    induction ys with
    | nil => exact fun _ => ⟨[], rfl, fun _ h => (nomatch h)⟩
    | cons y ys ih =>
      intro h
      obtain ⟨Rs', e, k⟩ := ih fun z hz => h z (List.mem_cons_of_mem _ hz)
      obtain ⟨q, hq, rfl⟩ := List.mem_map.mp (h y (List.mem_cons_self ..))
      exact ⟨q :: Rs', by rw [e]; rfl, fun z hz => (List.mem_cons.mp hz).elim (fun e => by rw [e]; exact hq) (k z)⟩
  obtain ⟨Rs', rfl, k⟩ := key ys fun z hz => (hm z).mp hz
  refine ⟨Rs', ⟨hv, fun q hq => (ok q (k q hq)).1⟩, by simp [rd], ⟨fun r' hr => ?_, fun r hr => ?_⟩⟩
  · obtain ⟨q, hq, rfl⟩ := List.mem_map.mp hr
    exact S.a _ (List.mem_map.mpr ⟨q, k q hq, rfl⟩)
  · obtain ⟨r', h1, h2⟩ := S.b r hr
    obtain ⟨q, hq, rfl⟩ := List.mem_map.mp h1
    obtain ⟨q', hq', e⟩ := List.mem_map.mp ((hm q.1).mpr (List.mem_map.mpr ⟨q, hq, rfl⟩))
    have s1 := (ok q hq).1
    have s2 := (ok q' (k q' hq')).1
    have e : q'.1 = q.1 := e
    rw [e] at s2
    refine ⟨q'.2, List.mem_map.mpr ⟨q', hq', rfl⟩, ?_⟩
    rw [s2.uniq s1]
    exact h2
def nq (s : List Str) : List Str := s.filter (fun z => decide (z ≠ Q9))
def spf (G : List (List Str)) (s : List Str) : Bool := !decide (Q9 ∈ s) && decide (nq s ∈ G)
theorem nq_app {a : List Str} {z : Str} : nq (a ++ [z]) = nq a ++ if z = Q9 then [] else [z] := by
  unfold nq
  rw [List.filter_append]
  congr 1
  by_cases h : z = Q9
  · rw [if_pos h]; simp [h]
  · rw [if_neg h]; simp [h]
theorem nq_sub {a : List Str} {z : Str} (h : z ∈ nq a) : z ∈ a := (List.mem_filter.mp h).1
section
variable {P : Program} {w : World} {K : Fg} {mg : Str → Option Value} {base : Heap}
theorem rest_ok {μ0 μ1 : Mu} {Q : XP} (q : ∀ μ', Q (.d (.bool true)) μ') {names : List Str} {row : List Bool} {h : Addr} (hsr : Srt names) (hok : ∀ y ∈ names, Tx y) (hq9 : Q9 ∉ names) (n5 : names.length ≤ 5) (hrow : row.length = 2 ^ names.length) (hh : μ1 h = some .hand) {a0 a3 a4 a6 a8 : Option U} :
    lawR S_sets (S_form 6) S_st2 (S_al 20) S_cs S_fr (E3 μ0 Q) [a0, some (.r h), some (.d (.list (sl names))), a3, a4, some (.d (form names row).d), a6, some (.d (.list (sd2 (good row (sets names))))), a8, none, none, none, none, none, none, none, none, none] μ1 := by
  have big : 1000 < sizeLine := by decide
  have p32 : 2 ^ names.length ≤ 32 := Nat.le_trans (Nat.pow_le_pow_right (by decide) n5) (by decide)
  have sl5 : (sets names).length = 2 ^ names.length := sets_len
  have gl : (good row (sets names)).length = tr row := good_len (by rw [hrow, sl5])
  have tr32 : tr row ≤ 32 := Nat.le_trans (List.length_filter_le _ _) (by omega)
  have gs : ∀ r ∈ good row (sets names), r.length ≤ 5 ∧ (∀ z ∈ r, Tx z) := fun r hr => by
    have h1 := good_sub hr
    have := sets_row r h1
    exact ⟨by omega, fun z hz => hok z (sets_mem h1 z hz)⟩
  have back := fun R => back_ok (R := R) hsr hrow
  have wide := fun W sp R => wide_ok (W := W) (sp := sp) (R := R) (row := row) hsr
  have cf : cnt (form names row) names.length = tr row := cnt_form hrow
  have fh : (form names row).h ≤ names.length := form_h
  generalize good row (sets names) = G at *
  have e6 : (sd2 G).length = G.length := List.length_map _
  unfold lawR
  simp [wSeq, wIfS, wRet, wRetN, wNext, wDrop, wAsg, wAug, wBreak, wCont, wV, wC, wB, L3.wTru, L3.wNot, wAnd, wOr, wAndV, wOrV, wNotV, L3.wIf, wNeg, wOp, wCall, wQ, wML, wNil, wCons, wTup, wLst, wLstM, wIsi, wSl, wPart, wNoPart, wMinD, wJoin, wFrz, gN, sIx, sIs, sIsN, sI, sI0, truU, tyOk, tyU, isTruth, L3.isNon, itemsU, listU, ixU, qInt, qAbs, qStr, L3.max_int, start3, L3.kk_nb, L3.kk_nt, L3.kk_ni, L3.kk_ns, L3.kk_nl, L3.kk_bb, L3.kk_bt, L3.kk_bi, L3.kk_bs, L3.kk_bl, L3.kk_ib, L3.kk_it, L3.kk_ii, L3.kk_is, L3.kk_il, L3.kk_sb, L3.kk_st, L3.kk_si, L3.kk_ss, L3.kk_sl, L3.kk_tb, L3.kk_tt, L3.kk_ti, L3.kk_ts, L3.kk_tl, L3.kk_lb, L3.kk_lt, L3.kk_li, L3.kk_ls, L3.kk_ll, L3.at_0, L3.at_1, L3.at_2, L3.at_3, L3.eqA_int, L3.eqA_str, L3.eqA_bl, L3.lt_int, L3.gt_int, L3.le_int, L3.ge_int, L3.lt_str, L3.gt_str, L3.le_str, L3.ge_str, L3.add_int, L3.add_str, L3.exd, L3.exd0, L3.exd1, L3.exd2, L3.exd3, L3.exd4, L3.min_int, L3.min_str, L3.len_str, L3.len_lst, L3.len_tup, wLc, jSeq]
  have ul : ((sd2 G).map U.d).length = G.length := by rw [List.length_map, e6]
  refine lcGo_inv (fun j ys μ' => μ' = μ1 ∧ ∃ Rs : List Row, ys = (rd Rs).map U.d ∧ Rs.length = j ∧ RwOk Rs ∧ SameR (rr Rs) (G.take j)) ⟨rfl, [], rfl, rfl, fun _ h => (nomatch h), fun _ h => (nomatch h), fun _ h => by rw [List.take_zero] at h; cases h⟩ (fun _ _ _ _ => by first | trivial | rfl) (fun j hj ys μ' N ⟨e1, Rs, e2, e3, ok, sm⟩ hN => ?_) (fun ys μ' ⟨e1, Rs, e2, e3, ok, sm⟩ => ?_)
  · subst e1 e2
    rw [ul] at hj
    have hg : ((sd2 G).map U.d)[j]'(by rw [ul]; exact hj) = U.d (.list (sl G[j])) := by simp [sd2]
    rw [hg]
    obtain ⟨g1, g2⟩ := gs _ (List.getElem_mem hj)
    simp [wSeq, wIfS, wRet, wRetN, wNext, wDrop, wAsg, wAug, wBreak, wCont, wV, wC, wB, L3.wTru, L3.wNot, wAnd, wOr, wAndV, wOrV, wNotV, L3.wIf, wNeg, wOp, wCall, wQ, wML, wNil, wCons, wTup, wLst, wLstM, wIsi, wSl, wPart, wNoPart, wMinD, wJoin, wFrz, gN, sIx, sIs, sIsN, sI, sI0, truU, tyOk, tyU, isTruth, L3.isNon, itemsU, listU, ixU, qInt, qAbs, qStr, L3.max_int, start3, L3.kk_nb, L3.kk_nt, L3.kk_ni, L3.kk_ns, L3.kk_nl, L3.kk_bb, L3.kk_bt, L3.kk_bi, L3.kk_bs, L3.kk_bl, L3.kk_ib, L3.kk_it, L3.kk_ii, L3.kk_is, L3.kk_il, L3.kk_sb, L3.kk_st, L3.kk_si, L3.kk_ss, L3.kk_sl, L3.kk_tb, L3.kk_tt, L3.kk_ti, L3.kk_ts, L3.kk_tl, L3.kk_lb, L3.kk_lt, L3.kk_li, L3.kk_ls, L3.kk_ll, L3.at_0, L3.at_1, L3.at_2, L3.at_3, L3.eqA_int, L3.eqA_str, L3.eqA_bl, L3.lt_int, L3.gt_int, L3.le_int, L3.ge_int, L3.lt_str, L3.gt_str, L3.le_str, L3.ge_str, L3.add_int, L3.add_str, L3.exd, L3.exd0, L3.exd1, L3.exd2, L3.exd3, L3.exd4, L3.min_int, L3.min_str, L3.len_str, L3.len_lst, L3.len_tup, wipeR, wYes]
    refine ⟨h, sl G[j], rfl, hh, by rw [sl_len]; omega, fun v ys hv hm hl => ?_⟩
    obtain ⟨zs, hv', hm', hl'⟩ := str_rows hv hm
    rw [sl_len] at hl
    refine ⟨by rw [rd, List.length_map]; omega, hN _ _ ⟨rfl, Rs ++ [(v, zs)], by simp [rd], by simp [e3], fun q hq => ?_, ?_, ?_⟩⟩
    · rcases List.mem_append.mp hq with hq | hq
      · exact ok q hq
      · rw [List.mem_singleton] at hq
        subst hq
        exact ⟨hv', by show zs.length ≤ 20; omega, fun z hz => g2 z ((hm' z).mp hz)⟩
    · intro r' hr
      rw [List.take_succ_eq_append_getElem (by rw [← e6, List.length_map] at *; omega)]
      simp only [rr, List.map_append, List.mem_append] at hr
      rcases hr with hr | hr
      · obtain ⟨r, h1, h2⟩ := sm.a r' hr
        exact ⟨r, List.mem_append_left _ h1, h2⟩
      · have hr : r' = zs := by simpa using hr
        subst hr
        exact ⟨_, List.mem_append_right _ (List.mem_singleton.mpr rfl), hm'⟩
    · intro r hr
      rw [List.take_succ_eq_append_getElem (by omega)] at hr
      rcases List.mem_append.mp hr with hr | hr
      · obtain ⟨r', h1, h2⟩ := sm.b r hr
        exact ⟨r', by simp only [rr, List.map_append, List.mem_append]; exact .inl h1, h2⟩
      · rw [List.mem_singleton] at hr
        subst hr
        exact ⟨zs, by simp [rr], hm'⟩
  · subst e1 e2
    rw [ul] at e3
    rw [ul, List.take_length] at sm
    obtain ⟨r1, r2, r3, r4⟩ := rows_repr ok (by omega)
    refine ⟨rd Rs, rfl, .list (rd Rs), rfl, trivial, r1, r2, r3, r4, ?_⟩
    have rdl : (rd Rs).length = Rs.length := List.length_map _
    refine ⟨h, rd Rs, rfl, hh, by omega, fun v ys hv hm hl => ?_⟩
    obtain ⟨Rs', q1, q2, q3⟩ := row_rows hv hm ok sm
    refine ⟨h, sl names, rfl, hh, by rw [sl_len]; omega, fun v2 ys2 hv2 hm2 hl2 => ?_⟩
    obtain ⟨zs, z1, z2, z3⟩ := str_rows hv2 hm2
    rw [sl_len] at hl2
    refine ⟨v, v2, Rs', zs, names, rfl, q1, by omega, z1, by omega, hsr, by omega, z2, fun x hx => (hok x hx).1, ?_⟩
    rw [back _ q3]
    refine ⟨.list (rd Rs), rfl, trivial, r1, r2, r3, r4, ?_⟩
    show sEqA not (U.d (.str _)) (U.d (.str _)) _ _
    rw [L3.eqA_str, decide_eq_true rfl]
    refine .inl ⟨rfl, (form names row).d, rfl, gd_T _, by rw [d_depth]; omega, .inr ⟨rfl, ?_⟩⟩
    refine ⟨by decide, add_lst (by rw [sl_len]; simp; omega) ?_⟩
    have sg : ∀ r ∈ G, ∀ z ∈ r, Tx z := fun r hr => (gs r hr).2
    clear gs ul
    have q9t : Tx Q9 := ⟨by decide +kernel, by decide⟩
    rw [show sl names ++ [PyData.str (Str.ofString "Q9")] = sl (names ++ [Q9]) by simp [sl]]
    have nd : isDct μ' (.d (.list (sl (names ++ [Q9])))) = false := rfl
    unfold qSortA
    simp only [nd, Bool.false_eq_true, if_false]
    refine ⟨_, names ++ [Q9], rfl, by simp [listU, sl], by simp; omega, fun W pm so => ?_⟩
    have wl : W.length = names.length + 1 := by rw [pm.length_eq]; simp
    have wm : ∀ z, z ∈ W ↔ z ∈ names ∨ z = Q9 := fun z => by rw [pm.mem_iff]; simp
    have wnd : W.Nodup := pm.nodup_iff.mpr (List.nodup_append.mpr ⟨srt_nd hsr, by simp, fun a ha b hb => by
      rw [List.mem_singleton] at hb
      rw [hb]
      exact fun e => hq9 (e ▸ ha)⟩)
    have wsr := srt_of so wnd
    have wt : ∀ z ∈ W, Tx z := fun z hz => ((wm z).mp hz).elim (hok z) (fun e => e ▸ q9t)
    refine ⟨h, sl W, rfl, hh, by rw [sl_len]; omega, fun v3 ys3 hv3 hm3 hl3 => ?_⟩
    obtain ⟨zs3, y1, y2, y3⟩ := str_rows hv3 hm3
    rw [sl_len] at hl3
    refine ⟨form names row, v3, zs3, W, rfl, y1, by omega, wsr, by omega, y2, by omega, ?_⟩
    rw [wl, cnt_up fh, cf, e6, gl]
    refine ⟨by unfold CMul; omega, .int (2 * (tr row : Int)), by push_cast; rfl, by unfold gd; trivial, Nat.zero_le _, .inr ⟨rfl, fun p hp => ?_⟩⟩
    have hph : h ≠ p := fun e => by rw [e, hp] at hh; cases hh
    have w6 : W.length ≤ 6 := by omega
    have s6 : (sets W).length = 2 ^ W.length := sets_len
    have p64 : 2 ^ W.length ≤ 64 := Nat.le_trans (Nat.pow_le_pow_right (by decide) w6) (by decide)
    have u2 : ((sd2 (sets W)).map U.d).length = (sets W).length := by simp [sd2]
    clear hm hl hm2 hl2 hv hv2 hm3 hl3 hv3 y1 y2 y3 z1 z2 z3 q1 q2 q3 v v2 v3 ys ys2 ys3 zs zs3 Rs'
    simp [wSeq, wIfS, wRet, wRetN, wNext, wDrop, wAsg, wAug, wBreak, wCont, wV, wC, wB, L3.wTru, L3.wNot, wAnd, wOr, wAndV, wOrV, wNotV, L3.wIf, wNeg, wOp, wCall, wQ, wML, wNil, wCons, wTup, wLst, wLstM, wIsi, wSl, wPart, wNoPart, wMinD, wJoin, wFrz, gN, sIx, sIs, sIsN, sI, sI0, truU, tyOk, tyU, isTruth, L3.isNon, itemsU, listU, ixU, qInt, qAbs, qStr, L3.max_int, start3, L3.kk_nb, L3.kk_nt, L3.kk_ni, L3.kk_ns, L3.kk_nl, L3.kk_bb, L3.kk_bt, L3.kk_bi, L3.kk_bs, L3.kk_bl, L3.kk_ib, L3.kk_it, L3.kk_ii, L3.kk_is, L3.kk_il, L3.kk_sb, L3.kk_st, L3.kk_si, L3.kk_ss, L3.kk_sl, L3.kk_tb, L3.kk_tt, L3.kk_ti, L3.kk_ts, L3.kk_tl, L3.kk_lb, L3.kk_lt, L3.kk_li, L3.kk_ls, L3.kk_ll, L3.at_0, L3.at_1, L3.at_2, L3.at_3, L3.eqA_int, L3.eqA_str, L3.eqA_bl, L3.lt_int, L3.gt_int, L3.le_int, L3.ge_int, L3.lt_str, L3.gt_str, L3.le_str, L3.ge_str, L3.add_int, L3.add_str, L3.exd, L3.exd0, L3.exd1, L3.exd2, L3.exd3, L3.exd4, L3.min_int, L3.min_str, L3.len_str, L3.len_lst, L3.len_tup, wFor, jSeq]
    refine ⟨W, rfl, w6, (sd2 (sets W)).map U.d, rfl, ?_⟩
    refine forGo_inv (fun j ρ μ2 => (∃ x14 x15 x16 x17 : Option U, ρ = [a0, some (.r h), some (.d (.list (sl names))), a3, a4, some (.d (form names row).d), a6, some (.d (.list (sd2 G))), a8, some (.d (.list (rd Rs))), some (.d (.str (PyData.list (rd Rs)).shown)), some (.d (form names row).d), some (.d (.list (sl W))), some (.r p), x14, x15, x16, x17]) ∧
      μ2 = put μ' p (.lst ((bl (((sets W).take j).map (spf G))).map U.d))) ⟨⟨_, _, _, _, rfl⟩, rfl⟩ (fun _ _ _ _ => by first | trivial | rfl) (fun j hj ρ μ2 N ⟨⟨x14, x15, x16, x17, k1⟩, k2⟩ hN => ?_) (fun ρ μ2 ⟨⟨x14, x15, x16, x17, k1⟩, k2⟩ => ?_)
    · subst k1 k2
      rw [u2] at hj
      have hg : ((sd2 (sets W)).map U.d)[j]'(by rw [u2]; exact hj) = U.d (.list (sl (sets W)[j])) := by simp [sd2]
      rw [hg]
      have sm5 := sets_mem (List.getElem_mem hj)
      have sl6 := sets_row _ (List.getElem_mem hj)
      have tk : (sets W).take (j + 1) = (sets W).take j ++ [(sets W)[j]] := List.take_succ_eq_append_getElem hj
      rw [tk] at hN
      have tl : ((sets W).take j).length ≤ 64 := by rw [List.length_take]; omega
      generalize (sets W).take j = S1 at *
      generalize (sets W)[j] = s at *
      have st : ∀ z ∈ s, Tx z := fun z hz => wt z (sm5 z hz)
      have u3 : ((sl s).map U.d).length = s.length := by simp [sl]
      simp [wSeq, wIfS, wRet, wRetN, wNext, wDrop, wAsg, wAug, wBreak, wCont, wV, wC, wB, L3.wTru, L3.wNot, wAnd, wOr, wAndV, wOrV, wNotV, L3.wIf, wNeg, wOp, wCall, wQ, wML, wNil, wCons, wTup, wLst, wLstM, wIsi, wSl, wPart, wNoPart, wMinD, wJoin, wFrz, gN, sIx, sIs, sIsN, sI, sI0, truU, tyOk, tyU, isTruth, L3.isNon, itemsU, listU, ixU, qInt, qAbs, qStr, L3.max_int, start3, L3.kk_nb, L3.kk_nt, L3.kk_ni, L3.kk_ns, L3.kk_nl, L3.kk_bb, L3.kk_bt, L3.kk_bi, L3.kk_bs, L3.kk_bl, L3.kk_ib, L3.kk_it, L3.kk_ii, L3.kk_is, L3.kk_il, L3.kk_sb, L3.kk_st, L3.kk_si, L3.kk_ss, L3.kk_sl, L3.kk_tb, L3.kk_tt, L3.kk_ti, L3.kk_ts, L3.kk_tl, L3.kk_lb, L3.kk_lt, L3.kk_li, L3.kk_ls, L3.kk_ll, L3.at_0, L3.at_1, L3.at_2, L3.at_3, L3.eqA_int, L3.eqA_str, L3.eqA_bl, L3.lt_int, L3.gt_int, L3.le_int, L3.ge_int, L3.lt_str, L3.gt_str, L3.le_str, L3.ge_str, L3.add_int, L3.add_str, L3.exd, L3.exd0, L3.exd1, L3.exd2, L3.exd3, L3.exd4, L3.min_int, L3.min_str, L3.len_str, L3.len_lst, L3.len_tup, wLc, jSeq]
      refine lcGo_inv (fun i ys μ3 => μ3 = put μ' p (.lst ((bl (S1.map (spf G))).map U.d)) ∧ ys = (sl (nq (s.take i))).map U.d) ⟨rfl, rfl⟩ (fun _ _ _ _ => by first | trivial | rfl) (fun i hi ys μ3 N2 ⟨k1, k2⟩ hN2 => ?_) (fun ys μ3 ⟨k1, k2⟩ => ?_)
      · subst k1 k2
        rw [u3] at hi
        have hg2 : ((sl s).map U.d)[i]'(by rw [u3]; exact hi) = U.d (.str s[i]) := by simp [sl]
        have tk2 : s.take (i + 1) = s.take i ++ [s[i]] := List.take_succ_eq_append_getElem hi
        rw [hg2]
        rw [tk2, nq_app] at hN2
        have fl : (nq (s.take i)).length ≤ 7 := Nat.le_trans (List.length_filter_le _ _) (by rw [List.length_take]; omega)
        simp [wSeq, wIfS, wRet, wRetN, wNext, wDrop, wAsg, wAug, wBreak, wCont, wV, wC, wB, L3.wTru, L3.wNot, wAnd, wOr, wAndV, wOrV, wNotV, L3.wIf, wNeg, wOp, wCall, wQ, wML, wNil, wCons, wTup, wLst, wLstM, wIsi, wSl, wPart, wNoPart, wMinD, wJoin, wFrz, gN, sIx, sIs, sIsN, sI, sI0, truU, tyOk, tyU, isTruth, L3.isNon, itemsU, listU, ixU, qInt, qAbs, qStr, L3.max_int, start3, L3.kk_nb, L3.kk_nt, L3.kk_ni, L3.kk_ns, L3.kk_nl, L3.kk_bb, L3.kk_bt, L3.kk_bi, L3.kk_bs, L3.kk_bl, L3.kk_ib, L3.kk_it, L3.kk_ii, L3.kk_is, L3.kk_il, L3.kk_sb, L3.kk_st, L3.kk_si, L3.kk_ss, L3.kk_sl, L3.kk_tb, L3.kk_tt, L3.kk_ti, L3.kk_ts, L3.kk_tl, L3.kk_lb, L3.kk_lt, L3.kk_li, L3.kk_ls, L3.kk_ll, L3.at_0, L3.at_1, L3.at_2, L3.at_3, L3.eqA_int, L3.eqA_str, L3.eqA_bl, L3.lt_int, L3.gt_int, L3.le_int, L3.ge_int, L3.lt_str, L3.gt_str, L3.le_str, L3.ge_str, L3.add_int, L3.add_str, L3.exd, L3.exd0, L3.exd1, L3.exd2, L3.exd3, L3.exd4, L3.min_int, L3.min_str, L3.len_str, L3.len_lst, L3.len_tup, wipeR]
        by_cases hz : s[i] = Q9
        · rw [if_pos hz, List.append_nil] at hN2
          exact .inl ⟨hz, hN2 _ _ ⟨rfl, rfl⟩⟩
        · rw [if_neg hz] at hN2
          exact .inr ⟨hz, by rw [sl_len]; omega, hN2 _ _ ⟨rfl, by simp [sl]⟩⟩
      · subst k1 k2
        rw [u3, List.take_length]
        have an : ((sl s).any fun z => PyData.eqv z (.str (Str.ofString "Q9"))) = decide (Q9 ∈ s) := any_str
        have an2 := any_rows (G := G) (s := nq s)
        simp [wSeq, wIfS, wRet, wRetN, wNext, wDrop, wAsg, wAug, wBreak, wCont, wV, wC, wB, L3.wTru, L3.wNot, wAnd, wOr, wAndV, wOrV, wNotV, L3.wIf, wNeg, wOp, wCall, wQ, wML, wNil, wCons, wTup, wLst, wLstM, wIsi, wSl, wPart, wNoPart, wMinD, wJoin, wFrz, gN, sIx, sIs, sIsN, sI, sI0, truU, tyOk, tyU, isTruth, L3.isNon, itemsU, listU, ixU, qInt, qAbs, qStr, L3.max_int, start3, L3.kk_nb, L3.kk_nt, L3.kk_ni, L3.kk_ns, L3.kk_nl, L3.kk_bb, L3.kk_bt, L3.kk_bi, L3.kk_bs, L3.kk_bl, L3.kk_ib, L3.kk_it, L3.kk_ii, L3.kk_is, L3.kk_il, L3.kk_sb, L3.kk_st, L3.kk_si, L3.kk_ss, L3.kk_sl, L3.kk_tb, L3.kk_tt, L3.kk_ti, L3.kk_ts, L3.kk_tl, L3.kk_lb, L3.kk_lt, L3.kk_li, L3.kk_ls, L3.kk_ll, L3.at_0, L3.at_1, L3.at_2, L3.at_3, L3.eqA_int, L3.eqA_str, L3.eqA_bl, L3.lt_int, L3.gt_int, L3.le_int, L3.ge_int, L3.lt_str, L3.gt_str, L3.le_str, L3.ge_str, L3.add_int, L3.add_str, L3.exd, L3.exd0, L3.exd1, L3.exd2, L3.exd3, L3.exd4, L3.min_int, L3.min_str, L3.len_str, L3.len_lst, L3.len_tup, wAndV]
        have bll : (bl (S1.map (spf G))).length ≤ 64 := by rw [bl_len, List.length_map]; exact tl
        have ap : ∀ b, b = spf G s → ∀ x15 x16 x17 : Option U, mAppend (.r p) [U.d (.bool b)] (put μ' p (.lst ((bl (S1.map (spf G))).map U.d))) fun _ μ1 => N [a0, some (.r h), some (.d (.list (sl names))), a3, a4, some (.d (form names row).d), a6, some (.d (.list (sd2 G))), a8, some (.d (.list (rd Rs))), some (.d (.str (PyData.list (rd Rs)).shown)), some (.d (form names row).d), some (.d (.list (sl W))), some (.r p), some (.d (.list (sl s))), x15, x16, x17] μ1 := fun b e x15 x16 x17 => by
          refine append_r put_same (by rw [List.length_map]; omega) ?_
          rw [put_put]
          exact hN _ _ ⟨⟨_, _, _, _, rfl⟩, by rw [e]; simp [bl]⟩
        refine ⟨isL_r put_same, .str Q9, sl s, rfl, rfl, by unfold SeqAt.shaped; rw [(Sh.str q9t).c]; rfl, shp_sl st, ?_⟩
        rw [an]
        by_cases hq : Q9 ∈ s
        · rw [decide_eq_true hq]
          exact .inl ⟨rfl, ap _ (by unfold spf; rw [decide_eq_true hq]; rfl) _ _ _⟩
        · rw [decide_eq_false hq]
          refine .inr ⟨rfl, .list (sl (nq s)), sd2 G, rfl, rfl, shp_sl fun z hz => st z (nq_sub hz), shp_sd2 sg, ?_⟩
          rw [an2]
          exact ap _ (by unfold spf; rw [decide_eq_false hq]; rfl) _ _ _
    · subst k1 k2
      rw [u2, List.take_length]
      have spl : (((sets W).map (spf G))).length = 2 ^ W.length := by rw [List.length_map, s6]
      have spg : ∀ (k : Nat) (s : List Str), (sets W)[k]? = some s → ((sets W).map (spf G))[k]? = some (spf G s) := fun k s h => by rw [List.getElem?_map, h]; rfl
      generalize ((sets W).map (spf G)) = sp at *
      refine ⟨p, bl sp, rfl, put_same, ?_⟩
      rw [del_put hp]
      simp [wSeq, wIfS, wRet, wRetN, wNext, wDrop, wAsg, wAug, wBreak, wCont, wV, wC, wB, L3.wTru, L3.wNot, wAnd, wOr, wAndV, wOrV, wNotV, L3.wIf, wNeg, wOp, wCall, wQ, wML, wNil, wCons, wTup, wLst, wLstM, wIsi, wSl, wPart, wNoPart, wMinD, wJoin, wFrz, gN, sIx, sIs, sIsN, sI, sI0, truU, tyOk, tyU, isTruth, L3.isNon, itemsU, listU, ixU, qInt, qAbs, qStr, L3.max_int, start3, L3.kk_nb, L3.kk_nt, L3.kk_ni, L3.kk_ns, L3.kk_nl, L3.kk_bb, L3.kk_bt, L3.kk_bi, L3.kk_bs, L3.kk_bl, L3.kk_ib, L3.kk_it, L3.kk_ii, L3.kk_is, L3.kk_il, L3.kk_sb, L3.kk_st, L3.kk_si, L3.kk_ss, L3.kk_sl, L3.kk_tb, L3.kk_tt, L3.kk_ti, L3.kk_ts, L3.kk_tl, L3.kk_lb, L3.kk_lt, L3.kk_li, L3.kk_ls, L3.kk_ll, L3.at_0, L3.at_1, L3.at_2, L3.at_3, L3.eqA_int, L3.eqA_str, L3.eqA_bl, L3.lt_int, L3.gt_int, L3.le_int, L3.ge_int, L3.lt_str, L3.gt_str, L3.le_str, L3.ge_str, L3.add_int, L3.add_str, L3.exd, L3.exd0, L3.exd1, L3.exd2, L3.exd3, L3.exd4, L3.min_int, L3.min_str, L3.len_str, L3.len_lst, L3.len_tup, frzR]
      refine ⟨.r h, by rw [if_neg hph], h, sl W, rfl, hh, by rw [sl_len]; omega, fun v3 ys3 hv3 hm3 hl3 => ?_⟩
      obtain ⟨zs3, y1, y2, y3⟩ := str_rows hv3 hm3
      rw [sl_len] at hl3
      refine ⟨.list (rd Rs), v3, Rs, zs3, W, rfl, ⟨.inl rfl, fun q hq => (ok q hq).1⟩, by omega, y1, by omega, wsr, by omega, y2, fun x hx => (wt x hx).1, ?_⟩
      refine ⟨W, sp, rfl, w6, spl, by omega, fun x hx => (wt x hx).1, ?_⟩
      rw [wide W sp (rr Rs) wsr wm hq9 sm spl spg]
      have fh2 : (form W sp).h ≤ W.length := form_h
      exact ⟨(form W sp).d, rfl, gd_T _, by rw [d_depth]; omega, rtE (q _)⟩
end
end K01

/-! the law -/
namespace K01
open PySem PySem.Spec PyProof.Rows L2 L3 Cn
structure Env0 (K : Fg) (mg : Str → Option Value) : Prop where
  len : mg "len" = none
  int : mg "int" = none
  abs : mg "abs" = none
  rng : mg "range" = none
  lst : mg "list" = none
  tup : mg "tuple" = none
  str : mg "str" = none
  isi : mg "isinstance" = none
  bool : mg "bool" = none
  srt : mg "sorted" = none
  set : mg "set" = none
  enu : mg "enumerate" = none
  rev : mg "reversed" = none
  rpr : mg "repr" = none
  p_cs : Dn K mg "count_settings" s_p_count_settings
  p_as : Dn K mg "all_settings" s_p_all_settings
  p_fr : Dn K mg "from_settings" s_p_from_settings
  p_fs : Dn K mg "first_setting" s_p_first_setting
  p_nd : Dn K mg "_node" s_p__node
  p_ct : Dn K mg "_count" s_p__count
  p_ls : Dn K mg "_listed" s_p__listed
  l_st : Dn K mg "_law_stirred" s_l_stirred
  l_take : Dn K mg "_law_take" s_l_take
  l_sh : Dn K mg "_law_shuffled" s_l_shuffled
  l_hand : Dn K mg "_law_hand" s_l_hand
  l_nm : Dn K mg "_law_switch_names" s_l_switch_names
  l_se : Dn K mg "_law_settings" s_l_settings
  l_bi : Dn K mg "_law_bits" s_l_bits
  l_fo : Dn K mg "_law_form" s_l_form
  l_wh : Dn K mg "_law_whole" s_l_whole
  l_al : Dn K mg "_law_alike" s_l_alike
  l_sw : Dn K mg "_law_strewn" s_l_strewn
def S_law : WF := fun us μ Q => ∃ ns : List Int, us = [.d (.list (il ns))] ∧ ns.length ≤ 63 ∧ ∀ μ', Q (.d (.bool true)) μ'
section
variable {P : Program} {w : World} {K : Fg} {mg : Str → Option Value} {base : Heap}
theorem law_ok (E : Env0 K mg) {f : Addr} {fd : FuncData} (Fd : FunD K "law" "law" (defArgs s_p_law) (defBody s_p_law) (defScope s_p_law) [] [] f fd) : FnG P w K mg base C8.CX0 40 f fd ["_law_script"] (sp3 K S_law) :=
  fok_p_law Fd (hand_ok E.l_hand E.int E.len E.abs) (by omega) (names_ok E.l_nm E.l_take E.l_st E.int E.len E.rng E.str E.srt) (by omega) (take_ok E.l_take E.l_st E.int E.len) (by omega) (sets_ok E.l_se E.rev) (by omega) (bits_ok E.l_bi E.l_take E.l_st E.int E.len E.rng) (by omega) (form_ok E.l_fo E.len 6) (by omega) (as_ok E.p_as E.len E.rng E.tup E.enu E.srt E.set) (by omega)
    (strewn_ok E.l_sw E.l_sh E.l_take E.l_st E.int E.len E.lst E.rng E.tup) (by omega) (alike_ok E.l_al E.l_wh E.isi E.int E.bool E.tup E.len E.rng E.str 20) (by omega) (cs_ok E.p_cs E.p_ct E.isi E.tup E.len E.set) (by omega) (first_ok E.p_fs E.isi E.tup) (by omega) (fr_ok E.p_fr E.p_ls E.p_nd E.len E.srt E.set) (by omega)
    (m_len := E.len) (m_tuple := E.tup) (m_range := E.rng) (m_repr := E.rpr) (m_sorted := E.srt) (len := fun us μ Q ⟨_, e, _⟩ => by rw [e]; rfl) (h := fun us μ Q ⟨ns, e, hn, q⟩ => by
    subst e
    have big : 1000 < sizeLine := by decide
    unfold W_p_law
    show wSeq _ (wSeq _ (wSeq _ (wSeq _ (wSeq _ (wSeq _ (wSeq _ (wSeq _ (wSeq _ (wSeq _ (wSeq _ (wSeq _ (lawR S_sets (S_form 6) S_st2 (S_al 20) S_cs S_fr)))))))))))) _ _ _
    simp [wSeq, wIfS, wRet, wRetN, wNext, wDrop, wAsg, wAug, wBreak, wCont, wV, wC, wB, L3.wTru, L3.wNot, wAnd, wOr, wAndV, wOrV, wNotV, L3.wIf, wNeg, wOp, wCall, wQ, wML, wNil, wCons, wTup, wLst, wLstM, wIsi, wSl, wPart, wNoPart, wMinD, wJoin, wFrz, gN, sIx, sIs, sIsN, sI, sI0, truU, tyOk, tyU, isTruth, L3.isNon, itemsU, listU, ixU, qInt, qAbs, qStr, L3.max_int, start3, L3.kk_nb, L3.kk_nt, L3.kk_ni, L3.kk_ns, L3.kk_nl, L3.kk_bb, L3.kk_bt, L3.kk_bi, L3.kk_bs, L3.kk_bl, L3.kk_ib, L3.kk_it, L3.kk_ii, L3.kk_is, L3.kk_il, L3.kk_sb, L3.kk_st, L3.kk_si, L3.kk_ss, L3.kk_sl, L3.kk_tb, L3.kk_tt, L3.kk_ti, L3.kk_ts, L3.kk_tl, L3.kk_lb, L3.kk_lt, L3.kk_li, L3.kk_ls, L3.kk_ll, L3.at_0, L3.at_1, L3.at_2, L3.at_3, L3.eqA_int, L3.eqA_str, L3.eqA_bl, L3.lt_int, L3.gt_int, L3.le_int, L3.ge_int, L3.lt_str, L3.gt_str, L3.le_str, L3.ge_str, L3.add_int, L3.add_str, L3.exd, L3.exd0, L3.exd1, L3.exd2, L3.exd3, L3.exd4, L3.min_int, L3.min_str, L3.len_str, L3.len_lst, L3.len_tup]
    refine ⟨ns, rfl, hn, fun h h0 => ?_⟩
    have hh0 : put μ h .hand h = some .hand := put_same
    refine ⟨h, 6, rfl, hh0, by omega, by omega, fun z z1 z2 => ?_⟩
    obtain ⟨n, rfl⟩ := Int.eq_ofNat_of_zero_le z1
    refine ⟨h, n, rfl, hh0, by omega, fun names hnl hsr hok hq9 => ?_⟩
    generalize put μ h .hand = μ1 at hh0 ⊢
    have n5 : names.length ≤ 5 := by omega
    have p32 : 2 ^ names.length ≤ 32 := Nat.le_trans (Nat.pow_le_pow_right (by decide) n5) (by decide)
    have sl5 : (sets names).length = 2 ^ names.length := sets_len
    have e2 : (sd2 (sets names)).length = (sets names).length := List.length_map _
    refine ⟨names, rfl, by omega, ?_⟩
    simp [wSeq, wIfS, wRet, wRetN, wNext, wDrop, wAsg, wAug, wBreak, wCont, wV, wC, wB, L3.wTru, L3.wNot, wAnd, wOr, wAndV, wOrV, wNotV, L3.wIf, wNeg, wOp, wCall, wQ, wML, wNil, wCons, wTup, wLst, wLstM, wIsi, wSl, wPart, wNoPart, wMinD, wJoin, wFrz, gN, sIx, sIs, sIsN, sI, sI0, truU, tyOk, tyU, isTruth, L3.isNon, itemsU, listU, ixU, qInt, qAbs, qStr, L3.max_int, start3, L3.kk_nb, L3.kk_nt, L3.kk_ni, L3.kk_ns, L3.kk_nl, L3.kk_bb, L3.kk_bt, L3.kk_bi, L3.kk_bs, L3.kk_bl, L3.kk_ib, L3.kk_it, L3.kk_ii, L3.kk_is, L3.kk_il, L3.kk_sb, L3.kk_st, L3.kk_si, L3.kk_ss, L3.kk_sl, L3.kk_tb, L3.kk_tt, L3.kk_ti, L3.kk_ts, L3.kk_tl, L3.kk_lb, L3.kk_lt, L3.kk_li, L3.kk_ls, L3.kk_ll, L3.at_0, L3.at_1, L3.at_2, L3.at_3, L3.eqA_int, L3.eqA_str, L3.eqA_bl, L3.lt_int, L3.gt_int, L3.le_int, L3.ge_int, L3.lt_str, L3.gt_str, L3.le_str, L3.ge_str, L3.add_int, L3.add_str, L3.exd, L3.exd0, L3.exd1, L3.exd2, L3.exd3, L3.exd4, L3.min_int, L3.min_str, L3.len_str, L3.len_lst, L3.len_tup, e2, sl5]
    refine ⟨h, 2 ^ names.length, by simp, hh0, by omega, fun row hrow => ?_⟩
    refine ⟨names, row, rfl, by omega, hrow, by omega, fun x hx => (hok x hx).1, ?_⟩
    simp [wSeq, wIfS, wRet, wRetN, wNext, wDrop, wAsg, wAug, wBreak, wCont, wV, wC, wB, L3.wTru, L3.wNot, wAnd, wOr, wAndV, wOrV, wNotV, L3.wIf, wNeg, wOp, wCall, wQ, wML, wNil, wCons, wTup, wLst, wLstM, wIsi, wSl, wPart, wNoPart, wMinD, wJoin, wFrz, gN, sIx, sIs, sIsN, sI, sI0, truU, tyOk, tyU, isTruth, L3.isNon, itemsU, listU, ixU, qInt, qAbs, qStr, L3.max_int, start3, L3.kk_nb, L3.kk_nt, L3.kk_ni, L3.kk_ns, L3.kk_nl, L3.kk_bb, L3.kk_bt, L3.kk_bi, L3.kk_bs, L3.kk_bl, L3.kk_ib, L3.kk_it, L3.kk_ii, L3.kk_is, L3.kk_il, L3.kk_sb, L3.kk_st, L3.kk_si, L3.kk_ss, L3.kk_sl, L3.kk_tb, L3.kk_tt, L3.kk_ti, L3.kk_ts, L3.kk_tl, L3.kk_lb, L3.kk_lt, L3.kk_li, L3.kk_ls, L3.kk_ll, L3.at_0, L3.at_1, L3.at_2, L3.at_3, L3.eqA_int, L3.eqA_str, L3.eqA_bl, L3.lt_int, L3.gt_int, L3.le_int, L3.ge_int, L3.lt_str, L3.gt_str, L3.le_str, L3.ge_str, L3.add_int, L3.add_str, L3.exd, L3.exd0, L3.exd1, L3.exd2, L3.exd3, L3.exd4, L3.min_int, L3.min_str, L3.len_str, L3.len_lst, L3.len_tup, wLcG]
    refine ⟨h, sl names, rfl, hh0, by rw [sl_len]; omega, fun v ys hv hm hl => ?_⟩
    obtain ⟨zs, hv', hm', hl'⟩ := str_rows hv hm
    rw [sl_len] at hl
    refine ⟨v, zs, names, rfl, hv', by omega, hsr, n5, hm', fun μ2 hμ2 => ⟨td (sets names), by rw [td, List.map_map]; rfl, ?_⟩⟩
    have hh2 := hμ2 h _ hh0
    clear hμ2 hh0 h0
    clear hv hm hl hv' hm' hl' v ys zs
    refine ⟨_, td (sets names), rfl, rfl, ?_⟩
    have e3 : (td (sets names)).length = (sets names).length := List.length_map _
    have hr5 : ∀ r ∈ sets names, r.length ≤ 5 := fun r hr => by have := sets_row r hr; omega
    simp [wSeq, wIfS, wRet, wRetN, wNext, wDrop, wAsg, wAug, wBreak, wCont, wV, wC, wB, L3.wTru, L3.wNot, wAnd, wOr, wAndV, wOrV, wNotV, L3.wIf, wNeg, wOp, wCall, wQ, wML, wNil, wCons, wTup, wLst, wLstM, wIsi, wSl, wPart, wNoPart, wMinD, wJoin, wFrz, gN, sIx, sIs, sIsN, sI, sI0, truU, tyOk, tyU, isTruth, L3.isNon, itemsU, listU, ixU, qInt, qAbs, qStr, L3.max_int, start3, L3.kk_nb, L3.kk_nt, L3.kk_ni, L3.kk_ns, L3.kk_nl, L3.kk_bb, L3.kk_bt, L3.kk_bi, L3.kk_bs, L3.kk_bl, L3.kk_ib, L3.kk_it, L3.kk_ii, L3.kk_is, L3.kk_il, L3.kk_sb, L3.kk_st, L3.kk_si, L3.kk_ss, L3.kk_sl, L3.kk_tb, L3.kk_tt, L3.kk_ti, L3.kk_ts, L3.kk_tl, L3.kk_lb, L3.kk_lt, L3.kk_li, L3.kk_ls, L3.kk_ll, L3.at_0, L3.at_1, L3.at_2, L3.at_3, L3.eqA_int, L3.eqA_str, L3.eqA_bl, L3.lt_int, L3.gt_int, L3.le_int, L3.ge_int, L3.lt_str, L3.gt_str, L3.le_str, L3.ge_str, L3.add_int, L3.add_str, L3.exd, L3.exd0, L3.exd1, L3.exd2, L3.exd3, L3.exd4, L3.min_int, L3.min_str, L3.len_str, L3.len_lst, L3.len_tup, wLc, jSeq, jRng1]
    refine lc_map (fun j => (td (sets names)).getD j .none) (by rw [List.length_map, e2]; omega) (by first | trivial | rfl) (fun j hj N hN => ?_) ?_
    · rw [List.length_map, e2] at hj
      have e4 : ((sd2 (sets names)).map U.d)[j]'(by rw [List.length_map, e2]; exact hj) = .d (.list (sl (sets names)[j])) := by simp [sd2]
      have e5 : (td (sets names)).getD j .none = .tuple (sl (sets names)[j]) := by simp [td, hj]
      rw [e4]
      rw [e5] at hN
      simp [wSeq, wIfS, wRet, wRetN, wNext, wDrop, wAsg, wAug, wBreak, wCont, wV, wC, wB, L3.wTru, L3.wNot, wAnd, wOr, wAndV, wOrV, wNotV, L3.wIf, wNeg, wOp, wCall, wQ, wML, wNil, wCons, wTup, wLst, wLstM, wIsi, wSl, wPart, wNoPart, wMinD, wJoin, wFrz, gN, sIx, sIs, sIsN, sI, sI0, truU, tyOk, tyU, isTruth, L3.isNon, itemsU, listU, ixU, qInt, qAbs, qStr, L3.max_int, start3, L3.kk_nb, L3.kk_nt, L3.kk_ni, L3.kk_ns, L3.kk_nl, L3.kk_bb, L3.kk_bt, L3.kk_bi, L3.kk_bs, L3.kk_bl, L3.kk_ib, L3.kk_it, L3.kk_ii, L3.kk_is, L3.kk_il, L3.kk_sb, L3.kk_st, L3.kk_si, L3.kk_ss, L3.kk_sl, L3.kk_tb, L3.kk_tt, L3.kk_ti, L3.kk_ts, L3.kk_tl, L3.kk_lb, L3.kk_lt, L3.kk_li, L3.kk_ls, L3.kk_ll, L3.at_0, L3.at_1, L3.at_2, L3.at_3, L3.eqA_int, L3.eqA_str, L3.eqA_bl, L3.lt_int, L3.gt_int, L3.le_int, L3.ge_int, L3.lt_str, L3.gt_str, L3.le_str, L3.ge_str, L3.add_int, L3.add_str, L3.exd, L3.exd0, L3.exd1, L3.exd2, L3.exd3, L3.exd4, L3.min_int, L3.min_str, L3.len_str, L3.len_lst, L3.len_tup, wipeR]
      exact ⟨_, sl (sets names)[j], rfl, rfl, hN⟩
    rw [List.length_map, e2, ← e3, range_getD]
    refine ⟨_, rfl, _, td (sets names), rfl, rfl, ?_⟩
    refine ⟨.tuple (td (sets names)), rfl, by rw [gd]; exact ⟨by omega, td_gd fun r hr => by have := hr5 r hr; omega⟩, by rw [PyData.depth]; have := td_dep (S := sets names); omega, .inr ⟨rfl, ?_⟩⟩
    rw [e3, sl5]
    refine ⟨by omega, ?_⟩
    have rl : ((List.range (2 ^ names.length)).map fun i : Nat => U.d (.int (i : Int))).length = 2 ^ names.length := rng_len
    have gle : (good row (sets names)).length = tr row ∧ (good row (sets names)).length ≤ 32 := by
      have := good_len (row := row) (S := sets names) (by rw [hrow, sl5])
      refine ⟨this, ?_⟩
      rw [this]
      exact Nat.le_trans (List.length_filter_le _ _) (by omega)
    refine lcGo_inv (fun j ys μ' => μ' = μ2 ∧ ys = (sd2 (good (row.take j) ((sets names).take j))).map U.d) ⟨rfl, by simp [good, sd2]⟩ (fun _ _ _ _ => trivial) (fun j hj ys μ' N ⟨e1, e4⟩ hN => ?_) (fun ys μ' ⟨e1, e4⟩ => ?_)
    · subst e1 e4
      rw [rl] at hj
      rw [rng_get (n := 2 ^ names.length) (by rw [rl]; exact hj)]
      have hb : atI ((bl row).map U.d) (j : Int) = some (.d (.bool row[j])) := by
        rw [L3.at_n (by rw [List.length_map, bl_len]; omega)]
        simp [bl]
      have hs2 : atI ((sd2 (sets names)).map U.d) (j : Int) = some (.d (.list (sl (sets names)[j]))) := by
        rw [L3.at_n (by rw [List.length_map, e2]; omega)]
        simp [sd2]
      rw [good_take (by omega) (by omega)] at hN
      have gl : (good (row.take j) ((sets names).take j)).length ≤ j := by
        rw [good_len (by rw [List.length_take, List.length_take]; omega)]
        exact Nat.le_trans (List.length_filter_le _ _) (by rw [List.length_take]; omega)
      simp [wSeq, wIfS, wRet, wRetN, wNext, wDrop, wAsg, wAug, wBreak, wCont, wV, wC, wB, L3.wTru, L3.wNot, wAnd, wOr, wAndV, wOrV, wNotV, L3.wIf, wNeg, wOp, wCall, wQ, wML, wNil, wCons, wTup, wLst, wLstM, wIsi, wSl, wPart, wNoPart, wMinD, wJoin, wFrz, gN, sIx, sIs, sIsN, sI, sI0, truU, tyOk, tyU, isTruth, L3.isNon, itemsU, listU, ixU, qInt, qAbs, qStr, L3.max_int, start3, L3.kk_nb, L3.kk_nt, L3.kk_ni, L3.kk_ns, L3.kk_nl, L3.kk_bb, L3.kk_bt, L3.kk_bi, L3.kk_bs, L3.kk_bl, L3.kk_ib, L3.kk_it, L3.kk_ii, L3.kk_is, L3.kk_il, L3.kk_sb, L3.kk_st, L3.kk_si, L3.kk_ss, L3.kk_sl, L3.kk_tb, L3.kk_tt, L3.kk_ti, L3.kk_ts, L3.kk_tl, L3.kk_lb, L3.kk_lt, L3.kk_li, L3.kk_ls, L3.kk_ll, L3.at_0, L3.at_1, L3.at_2, L3.at_3, L3.eqA_int, L3.eqA_str, L3.eqA_bl, L3.lt_int, L3.gt_int, L3.le_int, L3.ge_int, L3.lt_str, L3.gt_str, L3.le_str, L3.ge_str, L3.add_int, L3.add_str, L3.exd, L3.exd0, L3.exd1, L3.exd2, L3.exd3, L3.exd4, L3.min_int, L3.min_str, L3.len_str, L3.len_lst, L3.len_tup, hb, hs2, wipeR]
      cases hc : row[j] with
      | false =>
        rw [hc] at hN
        rw [if_neg Bool.false_ne_true, List.append_nil] at hN
        exact .inl ⟨rfl, hN _ _ ⟨rfl, rfl⟩⟩
      | true =>
        rw [hc] at hN
        rw [if_pos rfl] at hN
        refine .inr ⟨rfl, by rw [sd2, List.length_map]; omega, hN _ _ ⟨rfl, by simp [sd2]⟩⟩
    subst e1 e4
    rw [rl, ← hrow, List.take_length, hrow, ← sl5, List.take_length]
    refine ⟨sd2 (good row (sets names)), rfl, ?_⟩
    refine ⟨h, sl names, rfl, hh2, by rw [sl_len]; omega, fun v ys hv hm hl => ?_⟩
    obtain ⟨zs, hv', hm', hl'⟩ := str_rows hv hm
    rw [sl_len] at hl
    refine ⟨_, v, zs, names, rfl, hv', by omega, hsr, by omega, hm', form_h, ?_⟩
    clear hv hm hl hv' hm' hl' v ys zs
    have e6 : (sd2 (good row (sets names))).length = (good row (sets names)).length := List.length_map _
    rw [cnt_form hrow, e6, gle.1]
    refine ⟨.int (tr row : Int), rfl, by unfold gd; trivial, Nat.zero_le _, .inr ⟨rfl, ?_⟩⟩
    have fh : (form names row).h ≤ names.length := form_h
    have ro := fun a0 a3 a4 a6 a8 => rest_ok (μ0 := μ) (μ1 := μ') (Q := Q) q hsr hok hq9 n5 hrow hh2 (a0 := a0) (a3 := a3) (a4 := a4) (a6 := a6) (a8 := a8)
    refine ⟨form names row, rfl, by omega, ?_⟩
    by_cases hg : good row (sets names) = []
    · have hf := (Ot.form_false hsr hrow).mpr ((good_nil (by rw [hrow, sl5])).mpr hg)
      have hs : sd2 (good row (sets names)) = [] := by rw [hg]; rfl
      refine .inr ⟨hs, .inl ⟨by rw [hf]; rfl, .inl ⟨hs, ro _ _ _ _ _⟩⟩⟩
    · have hn : Ot.nf row = true := by
        cases h : Ot.nf row with
        | true => rfl
        | false => exact absurd ((good_nil (by rw [hrow, sl5])).mp h) hg
      have hs : ¬ sd2 (good row (sets names)) = [] := by unfold sd2; simpa using hg
      have hf : form names row ≠ .lit false := fun e => by
        rw [(Ot.form_false hsr hrow).mp e] at hn
        cases hn
      have h0 := good_head (row := row) (S := sets names) (by rw [hrow, sl5]) hn
      rw [fst_sets hsr hrow hn] at h0
      obtain ⟨hlt, h1⟩ := List.getElem?_eq_some_iff.mp h0
      have ol := ons_le (c := form names row)
      have ha : atI ((sd2 (good row (sets names))).map U.d) 0 = some (.d (.list (sl (Ot.ons (form names row))))) := by
        show atI _ ((0 : Nat) : Int) = _
        rw [L3.at_n (by rw [List.length_map, e6]; exact hlt)]
        simp [sd2, h1]
      exact .inl ⟨hs, .inr ⟨by omega, _, ha, _, _, rfl, rfl, .tuple (sl (Ot.ons (form names row))), by rw [fsd_ne hf], by rw [gd]; exact ⟨by rw [sl_len]; omega, gds_sl _⟩, by rw [PyData.depth, depth_sl]; omega, .inr ⟨rfl, ro _ _ _ _ _⟩⟩⟩)
end
end K01

namespace K01
open PySem PySem.Spec PyProof.Rows L2 L3 Cn
/-! ### the head -/
def hd_p_count_settings : He.DefD := ⟨("count_settings", none), "count_settings", "count_settings", defArgs s_p_count_settings, defBody s_p_count_settings, defScope s_p_count_settings, [], []⟩
def hd_p_all_settings : He.DefD := ⟨("all_settings", none), "all_settings", "all_settings", defArgs s_p_all_settings, defBody s_p_all_settings, defScope s_p_all_settings, [], []⟩
def hd_p_from_settings : He.DefD := ⟨("from_settings", none), "from_settings", "from_settings", defArgs s_p_from_settings, defBody s_p_from_settings, defScope s_p_from_settings, [], []⟩
def hd_p_first_setting : He.DefD := ⟨("first_setting", none), "first_setting", "first_setting", defArgs s_p_first_setting, defBody s_p_first_setting, defScope s_p_first_setting, [], []⟩
def hd_p__node : He.DefD := ⟨("_node", none), "_node", "_node", defArgs s_p__node, defBody s_p__node, defScope s_p__node, [], []⟩
def hd_p__count : He.DefD := ⟨("_count", none), "_count", "_count", defArgs s_p__count, defBody s_p__count, defScope s_p__count, [], []⟩
def hd_p__listed : He.DefD := ⟨("_listed", none), "_listed", "_listed", defArgs s_p__listed, defBody s_p__listed, defScope s_p__listed, [], []⟩
def hd_l_stirred : He.DefD := ⟨("_law_stirred", none), "_law_stirred", "_law_stirred", defArgs s_l_stirred, defBody s_l_stirred, defScope s_l_stirred, [], []⟩
def hd_l_take : He.DefD := ⟨("_law_take", none), "_law_take", "_law_take", defArgs s_l_take, defBody s_l_take, defScope s_l_take, [], []⟩
def hd_l_shuffled : He.DefD := ⟨("_law_shuffled", none), "_law_shuffled", "_law_shuffled", defArgs s_l_shuffled, defBody s_l_shuffled, defScope s_l_shuffled, [], []⟩
def hd_l_hand : He.DefD := ⟨("_law_hand", none), "_law_hand", "_law_hand", defArgs s_l_hand, defBody s_l_hand, defScope s_l_hand, [], []⟩
def hd_l_switch_names : He.DefD := ⟨("_law_switch_names", none), "_law_switch_names", "_law_switch_names", defArgs s_l_switch_names, defBody s_l_switch_names, defScope s_l_switch_names, [], []⟩
def hd_l_settings : He.DefD := ⟨("_law_settings", none), "_law_settings", "_law_settings", defArgs s_l_settings, defBody s_l_settings, defScope s_l_settings, [], []⟩
def hd_l_bits : He.DefD := ⟨("_law_bits", none), "_law_bits", "_law_bits", defArgs s_l_bits, defBody s_l_bits, defScope s_l_bits, [], []⟩
def hd_l_form : He.DefD := ⟨("_law_form", none), "_law_form", "_law_form", defArgs s_l_form, defBody s_l_form, defScope s_l_form, [], []⟩
def hd_l_whole : He.DefD := ⟨("_law_whole", none), "_law_whole", "_law_whole", defArgs s_l_whole, defBody s_l_whole, defScope s_l_whole, [], []⟩
def hd_l_alike : He.DefD := ⟨("_law_alike", none), "_law_alike", "_law_alike", defArgs s_l_alike, defBody s_l_alike, defScope s_l_alike, [], []⟩
def hd_l_strewn : He.DefD := ⟨("_law_strewn", none), "_law_strewn", "_law_strewn", defArgs s_l_strewn, defBody s_l_strewn, defScope s_l_strewn, [], []⟩
def hd_p_law : He.DefD := ⟨("law", none), "law", "law", defArgs s_p_law, defBody s_p_law, defScope s_p_law, [], []⟩
def hfn : List He.DefD := [hd_p_count_settings, hd_p_all_settings, hd_p_from_settings, hd_p_first_setting, hd_p__node, hd_p__count, hd_p__listed, hd_l_stirred, hd_l_take, hd_l_shuffled, hd_l_hand, hd_l_switch_names, hd_l_settings, hd_l_bits, hd_l_form, hd_l_whole, hd_l_alike, hd_l_strewn, hd_p_law]
def hfa : List He.Fa := [.glo "count_settings", .glo "all_settings", .glo "from_settings", .glo "first_setting", .glo "_node", .glo "_count", .glo "_listed", .glo "_law_stirred", .glo "_law_take", .glo "_law_shuffled", .glo "_law_hand", .glo "_law_switch_names", .glo "_law_settings", .glo "_law_bits", .glo "_law_form", .glo "_law_whole", .glo "_law_alike", .glo "_law_strewn", .glo "law", .free "len", .free "set", .free "range", .free "tuple", .free "enumerate", .free "sorted", .free "isinstance", .free "int", .free "list", .free "abs", .free "str", .free "reversed", .free "bool", .free "repr"]
abbrev hloose : List Str := "count_settings" :: "all_settings" :: "from_settings" :: "first_setting" :: "_node" :: "_count" :: "_listed" :: "_law_stirred" :: "_law_take" :: "_law_shuffled" :: "_law_hand" :: "_law_switch_names" :: "_law_settings" :: "_law_bits" :: "_law_form" :: "_law_whole" :: "_law_alike" :: "_law_strewn" :: []
abbrev HR : PySem.W.OpenRow := PySem.W.OpenLaw.row PySem.Challenge.rw_eacharm_k01_settings_of_a_condition
def hex (K : PySem.W.Frag) : Bool := true
abbrev hk : PySem.W.Hook := He.hookX 4 hfa hfn [] [] hex
def hob (s : PySem.W.SharedT) : He.AlX := He.obsX 4 hfa hfn [] [] hex (HandSHeadRun.getT s)
theorem hob_eq (s : PySem.W.SharedT) : hob s = hk.obs s.abs := He.obsX_eq (HandSHeadRun.getT_eq s)
theorem hrun (w : World) : HandSHeadRun.RunEq HR (PySem.W.view HR.prog [20]) hk hob 3000 hloose w := by
  intro os
  kernel_rfl
section
variable {K : PySem.W.Frag} {h : Heap} {mg : Str → Option Value}
theorem dn_p_count_settings (X : K.In h) (G : h.Ns mainGlobals mg) (c : He.SaysD hfa hfn K) : Dn K mg "count_settings" s_p_count_settings := by
  obtain ⟨fd, F⟩ := c.def_ 0 (d := hd_p_count_settings) rfl
  exact ⟨_, fd, F, He.glo_ok X G (c.fact 0 (f := .glo "count_settings") rfl)⟩
theorem dn_p_all_settings (X : K.In h) (G : h.Ns mainGlobals mg) (c : He.SaysD hfa hfn K) : Dn K mg "all_settings" s_p_all_settings := by
  obtain ⟨fd, F⟩ := c.def_ 1 (d := hd_p_all_settings) rfl
  exact ⟨_, fd, F, He.glo_ok X G (c.fact 1 (f := .glo "all_settings") rfl)⟩
theorem dn_p_from_settings (X : K.In h) (G : h.Ns mainGlobals mg) (c : He.SaysD hfa hfn K) : Dn K mg "from_settings" s_p_from_settings := by
  obtain ⟨fd, F⟩ := c.def_ 2 (d := hd_p_from_settings) rfl
  exact ⟨_, fd, F, He.glo_ok X G (c.fact 2 (f := .glo "from_settings") rfl)⟩
theorem dn_p_first_setting (X : K.In h) (G : h.Ns mainGlobals mg) (c : He.SaysD hfa hfn K) : Dn K mg "first_setting" s_p_first_setting := by
  obtain ⟨fd, F⟩ := c.def_ 3 (d := hd_p_first_setting) rfl
  exact ⟨_, fd, F, He.glo_ok X G (c.fact 3 (f := .glo "first_setting") rfl)⟩
theorem dn_p__node (X : K.In h) (G : h.Ns mainGlobals mg) (c : He.SaysD hfa hfn K) : Dn K mg "_node" s_p__node := by
  obtain ⟨fd, F⟩ := c.def_ 4 (d := hd_p__node) rfl
  exact ⟨_, fd, F, He.glo_ok X G (c.fact 4 (f := .glo "_node") rfl)⟩
theorem dn_p__count (X : K.In h) (G : h.Ns mainGlobals mg) (c : He.SaysD hfa hfn K) : Dn K mg "_count" s_p__count := by
  obtain ⟨fd, F⟩ := c.def_ 5 (d := hd_p__count) rfl
  exact ⟨_, fd, F, He.glo_ok X G (c.fact 5 (f := .glo "_count") rfl)⟩
theorem dn_p__listed (X : K.In h) (G : h.Ns mainGlobals mg) (c : He.SaysD hfa hfn K) : Dn K mg "_listed" s_p__listed := by
  obtain ⟨fd, F⟩ := c.def_ 6 (d := hd_p__listed) rfl
  exact ⟨_, fd, F, He.glo_ok X G (c.fact 6 (f := .glo "_listed") rfl)⟩
theorem dn_l_stirred (X : K.In h) (G : h.Ns mainGlobals mg) (c : He.SaysD hfa hfn K) : Dn K mg "_law_stirred" s_l_stirred := by
  obtain ⟨fd, F⟩ := c.def_ 7 (d := hd_l_stirred) rfl
  exact ⟨_, fd, F, He.glo_ok X G (c.fact 7 (f := .glo "_law_stirred") rfl)⟩
theorem dn_l_take (X : K.In h) (G : h.Ns mainGlobals mg) (c : He.SaysD hfa hfn K) : Dn K mg "_law_take" s_l_take := by
  obtain ⟨fd, F⟩ := c.def_ 8 (d := hd_l_take) rfl
  exact ⟨_, fd, F, He.glo_ok X G (c.fact 8 (f := .glo "_law_take") rfl)⟩
theorem dn_l_shuffled (X : K.In h) (G : h.Ns mainGlobals mg) (c : He.SaysD hfa hfn K) : Dn K mg "_law_shuffled" s_l_shuffled := by
  obtain ⟨fd, F⟩ := c.def_ 9 (d := hd_l_shuffled) rfl
  exact ⟨_, fd, F, He.glo_ok X G (c.fact 9 (f := .glo "_law_shuffled") rfl)⟩
theorem dn_l_hand (X : K.In h) (G : h.Ns mainGlobals mg) (c : He.SaysD hfa hfn K) : Dn K mg "_law_hand" s_l_hand := by
  obtain ⟨fd, F⟩ := c.def_ 10 (d := hd_l_hand) rfl
  exact ⟨_, fd, F, He.glo_ok X G (c.fact 10 (f := .glo "_law_hand") rfl)⟩
theorem dn_l_switch_names (X : K.In h) (G : h.Ns mainGlobals mg) (c : He.SaysD hfa hfn K) : Dn K mg "_law_switch_names" s_l_switch_names := by
  obtain ⟨fd, F⟩ := c.def_ 11 (d := hd_l_switch_names) rfl
  exact ⟨_, fd, F, He.glo_ok X G (c.fact 11 (f := .glo "_law_switch_names") rfl)⟩
theorem dn_l_settings (X : K.In h) (G : h.Ns mainGlobals mg) (c : He.SaysD hfa hfn K) : Dn K mg "_law_settings" s_l_settings := by
  obtain ⟨fd, F⟩ := c.def_ 12 (d := hd_l_settings) rfl
  exact ⟨_, fd, F, He.glo_ok X G (c.fact 12 (f := .glo "_law_settings") rfl)⟩
theorem dn_l_bits (X : K.In h) (G : h.Ns mainGlobals mg) (c : He.SaysD hfa hfn K) : Dn K mg "_law_bits" s_l_bits := by
  obtain ⟨fd, F⟩ := c.def_ 13 (d := hd_l_bits) rfl
  exact ⟨_, fd, F, He.glo_ok X G (c.fact 13 (f := .glo "_law_bits") rfl)⟩
theorem dn_l_form (X : K.In h) (G : h.Ns mainGlobals mg) (c : He.SaysD hfa hfn K) : Dn K mg "_law_form" s_l_form := by
  obtain ⟨fd, F⟩ := c.def_ 14 (d := hd_l_form) rfl
  exact ⟨_, fd, F, He.glo_ok X G (c.fact 14 (f := .glo "_law_form") rfl)⟩
theorem dn_l_whole (X : K.In h) (G : h.Ns mainGlobals mg) (c : He.SaysD hfa hfn K) : Dn K mg "_law_whole" s_l_whole := by
  obtain ⟨fd, F⟩ := c.def_ 15 (d := hd_l_whole) rfl
  exact ⟨_, fd, F, He.glo_ok X G (c.fact 15 (f := .glo "_law_whole") rfl)⟩
theorem dn_l_alike (X : K.In h) (G : h.Ns mainGlobals mg) (c : He.SaysD hfa hfn K) : Dn K mg "_law_alike" s_l_alike := by
  obtain ⟨fd, F⟩ := c.def_ 16 (d := hd_l_alike) rfl
  exact ⟨_, fd, F, He.glo_ok X G (c.fact 16 (f := .glo "_law_alike") rfl)⟩
theorem dn_l_strewn (X : K.In h) (G : h.Ns mainGlobals mg) (c : He.SaysD hfa hfn K) : Dn K mg "_law_strewn" s_l_strewn := by
  obtain ⟨fd, F⟩ := c.def_ 17 (d := hd_l_strewn) rfl
  exact ⟨_, fd, F, He.glo_ok X G (c.fact 17 (f := .glo "_law_strewn") rfl)⟩
theorem dn_p_law (X : K.In h) (G : h.Ns mainGlobals mg) (c : He.SaysD hfa hfn K) : Dn K mg "law" s_p_law := by
  obtain ⟨fd, F⟩ := c.def_ 18 (d := hd_p_law) rfl
  exact ⟨_, fd, F, He.glo_ok X G (c.fact 18 (f := .glo "law") rfl)⟩
theorem fr_len (X : K.In h) (G : h.Ns mainGlobals mg) (c : He.SaysD hfa hfn K) : mg "len" = none := He.free_ok X G (c.fact 19 (f := .free "len") rfl)
theorem fr_set (X : K.In h) (G : h.Ns mainGlobals mg) (c : He.SaysD hfa hfn K) : mg "set" = none := He.free_ok X G (c.fact 20 (f := .free "set") rfl)
theorem fr_range (X : K.In h) (G : h.Ns mainGlobals mg) (c : He.SaysD hfa hfn K) : mg "range" = none := He.free_ok X G (c.fact 21 (f := .free "range") rfl)
theorem fr_tuple (X : K.In h) (G : h.Ns mainGlobals mg) (c : He.SaysD hfa hfn K) : mg "tuple" = none := He.free_ok X G (c.fact 22 (f := .free "tuple") rfl)
theorem fr_enumerate (X : K.In h) (G : h.Ns mainGlobals mg) (c : He.SaysD hfa hfn K) : mg "enumerate" = none := He.free_ok X G (c.fact 23 (f := .free "enumerate") rfl)
theorem fr_sorted (X : K.In h) (G : h.Ns mainGlobals mg) (c : He.SaysD hfa hfn K) : mg "sorted" = none := He.free_ok X G (c.fact 24 (f := .free "sorted") rfl)
theorem fr_isinstance (X : K.In h) (G : h.Ns mainGlobals mg) (c : He.SaysD hfa hfn K) : mg "isinstance" = none := He.free_ok X G (c.fact 25 (f := .free "isinstance") rfl)
theorem fr_int (X : K.In h) (G : h.Ns mainGlobals mg) (c : He.SaysD hfa hfn K) : mg "int" = none := He.free_ok X G (c.fact 26 (f := .free "int") rfl)
theorem fr_list (X : K.In h) (G : h.Ns mainGlobals mg) (c : He.SaysD hfa hfn K) : mg "list" = none := He.free_ok X G (c.fact 27 (f := .free "list") rfl)
theorem fr_abs (X : K.In h) (G : h.Ns mainGlobals mg) (c : He.SaysD hfa hfn K) : mg "abs" = none := He.free_ok X G (c.fact 28 (f := .free "abs") rfl)
theorem fr_str (X : K.In h) (G : h.Ns mainGlobals mg) (c : He.SaysD hfa hfn K) : mg "str" = none := He.free_ok X G (c.fact 29 (f := .free "str") rfl)
theorem fr_reversed (X : K.In h) (G : h.Ns mainGlobals mg) (c : He.SaysD hfa hfn K) : mg "reversed" = none := He.free_ok X G (c.fact 30 (f := .free "reversed") rfl)
theorem fr_bool (X : K.In h) (G : h.Ns mainGlobals mg) (c : He.SaysD hfa hfn K) : mg "bool" = none := He.free_ok X G (c.fact 31 (f := .free "bool") rfl)
theorem fr_repr (X : K.In h) (G : h.Ns mainGlobals mg) (c : He.SaysD hfa hfn K) : mg "repr" = none := He.free_ok X G (c.fact 32 (f := .free "repr") rfl)
theorem henv (X : K.In h) (G : h.Ns mainGlobals mg) (c : He.SaysD hfa hfn K) : Env0 K mg := { len := fr_len X G c, int := fr_int X G c, abs := fr_abs X G c, rng := fr_range X G c, lst := fr_list X G c, tup := fr_tuple X G c, str := fr_str X G c, isi := fr_isinstance X G c, bool := fr_bool X G c, srt := fr_sorted X G c, set := fr_set X G c, enu := fr_enumerate X G c, rev := fr_reversed X G c, rpr := fr_repr X G c, p_cs := dn_p_count_settings X G c, p_as := dn_p_all_settings X G c, p_fr := dn_p_from_settings X G c, p_fs := dn_p_first_setting X G c, p_nd := dn_p__node X G c, p_ct := dn_p__count X G c, p_ls := dn_p__listed X G c, l_st := dn_l_stirred X G c, l_take := dn_l_take X G c, l_sh := dn_l_shuffled X G c, l_hand := dn_l_hand X G c, l_nm := dn_l_switch_names X G c, l_se := dn_l_settings X G c, l_bi := dn_l_bits X G c, l_fo := dn_l_form X G c, l_wh := dn_l_whole X G c, l_al := dn_l_alike X G c, l_sw := dn_l_strewn X G c }
def spLaw (K : PySem.W.Frag) : Sp := fun vs H Q _ => ∃ (a : Addr) (ns : List Int), vs = [.ref a] ∧ SqL K H a (ns.map V.int) ∧ ns.length ≤ 63 ∧ ∀ H', Q (.bl true) H'
theorem law_sp {vs : List V} {H : Hp} {Q : L2.VK} {E : XK} (s : spLaw K vs H Q E) : sp3 K S_law vs H Q E := by
  obtain ⟨a, ns, rfl, hS, hl, q⟩ := s
  refine ⟨[.d (.list (il ns))], fun _ => none, H, fun _ => none, fun u _ => u = .d (.bool true), ⟨fun a o h => h, fun _ _ h => (nomatch h), fun _ _ h => (nomatch h)⟩, .cons (Rp.lst hS (rps_ints' ns)) .nil, ⟨ns, rfl, hl, fun _ => rfl⟩, fun v u G' H' μ' _ _ r e => ?_⟩
  subst e
  rw [rp_bl (show Rp K G' v (.bool true) from r)]
  exact q H'
theorem hfacts {P : Program} {w : World} {f : Addr} (X : K.In h) (G : h.Ns mainGlobals mg) (hlaw : mg ("law" : Str) = some (.ref f)) (c : He.SaysD hfa hfn K) (e0 : hex K = true) :
    ∃ fd : FuncData, (∀ (s : Shared) (v : Value), BindsTo s fd ⟨[v], []⟩ [("_law_script", v)]) ∧ ∀ base : Heap, K.In base → base.Ns mainGlobals mg → FnG P w K mg base C8.CX0 40 f fd ["_law_script"] (spLaw K) := by
  have E := henv X G c

  obtain ⟨fd, F⟩ := c.def_ 18 (d := hd_p_law) rfl
  have e := hlaw.symm.trans (He.glo_ok X G (c.fact 18 (f := .glo "law") rfl))
  cases e
  have b := FunD.bindsA (ps := ["_law_script"]) F fun _ _ _ _ _ _ us hl => match us, hl with | [_], _ => rfl
  exact ⟨fd, fun s v => b s [v] rfl, fun base _ _ => (law_ok E F).imp fun vs H Q E' h => law_sp h⟩
end
end K01
open PySem PySem.W PySem.Calls PyProof.Rows
theorem PySem.Challenge.cw_eacharm_k01_settings_of_a_condition_holds : PySem.Challenge.rw_eacharm_k01_settings_of_a_condition.Holds := by
  w_on; o_law
  refine HandSHeadRun.head_any (r := OpenLaw.row PySem.Challenge.rw_eacharm_k01_settings_of_a_condition) (q := view (OpenLaw.row PySem.Challenge.rw_eacharm_k01_settings_of_a_condition).prog [20]) (H := K01.hk) (ob := K01.hob) (M := 3000) (loose := K01.hloose) (d := HandSHeadRun.topDef (OpenLaw.row PySem.Challenge.rw_eacharm_k01_settings_of_a_condition).prog 20) (kwd := []) K01.hob_eq
    (by kernel_rfl) (fun s => by kernel_rfl) K01.hrun (by kernel_rfl) (by kernel_rfl) (by kernel_rfl) (by rfl) (by first | assumption | decide +kernel) (by decide +kernel) ⟨rfl, rfl, rfl, rfl, rfl, by decide +kernel⟩ ?hw ?hc
  case hw => w_witness2
  case hc =>
    refine L2.walk_ofG (l := PySem.Challenge.rw_eacharm_k01_settings_of_a_condition) (n := 63) (k := 40) (x := "_law_script") (CX := C8.CX0) rfl (by decide) (by kernel_rfl) ⟨rfl, by decide, by decide⟩ ?F (fun _ _ _ _ z => z)
    intro w mg fa h Y G hmg0
    obtain ⟨K, KX, c⟩ := Y
    have hmg : mg ("law" : PySem.Str) = some (.ref fa) := by
      have e : (HandSHeadRun.topDef (OpenLaw.row PySem.Challenge.rw_eacharm_k01_settings_of_a_condition).prog 20).name = ("law" : PySem.Str) := by kernel_rfl
      rw [← e]
      exact hmg0
    obtain ⟨fd, hb, hF⟩ := K01.hfacts (P := (PySem.Challenge.rw_eacharm_k01_settings_of_a_condition).prog) (w := w) KX G hmg c.t.d c.more
    exact ⟨K, fd, K01.spLaw K, KX, hb, fun H a ns hl _ hS => ⟨a, ns, rfl, hS, hl, fun _ => rfl⟩, hF⟩
