import PyProof.Rows.All
import Wide.All
import OpenK.AllK
import Wide.FinOn
import HandS.ForMost
import HandS.Flow
import HandS.Codes
import HandS.IsInst
import HandS.TupLe
import HandS.Defaults
import HandS.TupAny
import HandS.Rev
import HandS.More
import HandS.SortKw
import PyProof.MinMaxWalk
import PyProof.WalkInts
import PyProof.AutoSeq1
import KE.SortData
import HandS.Star
import HandS.SortOrd
import HandS.FStr
import HandS.DictComp
import HandS.Deep
import HandS.Text
import HandS.Iter
import PyProof.DictUpdate
import PySem.Challenge.RW_eacharm_k57_outcomes_in_tables
import Lean
import KE.KStateDown
import HandS.Ends
import HandS.Words
import HandS.WordsExc
import HandS.Head0
import HandS.Head1
import HandS.Head2
import HandS.HeadEnd
import HandS.HeadHook1
import HandS.HeadHook2
set_option Elab.async false
set_option linter.all false
set_option maxRecDepth 100000
set_option maxHeartbeats 0
/-! A layer of my own over the hand layer: values without addresses. A value is a datum (None, truths, numbers, texts, lists and tuples of these) or the address of a list or dict that may change; what is frozen stands in a heap of its own that only grows. -/
namespace L3
open PySem PySem.Spec PyProof.Rows L2

abbrev Fg := PySem.W.Frag
inductive U where
  | d (x : PyData)
  | r (a : Addr)
abbrev Rho := List (Option U)
inductive MO where
  | lst (us : List U)
  | dct (kvs : List (Key × U))
  | hand
abbrev Mu := Addr → Option MO
def put (m : Mu) (a : Addr) (o : MO) : Mu := fun b => if b = a then some o else m b
def del (m : Mu) (a : Addr) : Mu := fun b => if b = a then none else m b
theorem put_same {m : Mu} {a : Addr} {o : MO} : put m a o a = some o := if_pos rfl
theorem put_ne {m : Mu} {a b : Addr} {o : MO} (h : b ≠ a) : put m a o b = m b := if_neg h
theorem put_put {m : Mu} {a : Addr} {o p : MO} : put (put m a o) a p = put m a p := by
  funext b
  unfold put
  split <;> rfl
theorem put_id {m : Mu} {a : Addr} {o : MO} (h : m a = some o) : put m a o = m := by
  funext b
  unfold put
  split
  · rename_i e
    rw [e, h]
  · rfl
theorem del_same {m : Mu} {a : Addr} : del m a a = none := if_pos rfl
theorem del_ne {m : Mu} {a b : Addr} (h : b ≠ a) : del m a b = m b := if_neg h
theorem del_put {m : Mu} {a : Addr} {o : MO} (h : m a = none) : del (put m a o) a = m := by
  funext b
  unfold del put
  split
  · rename_i e
    rw [e, h]
  · rfl
theorem del_put2 {m : Mu} {a : Addr} {o : MO} : del (put m a o) a = del m a := by
  funext b
  unfold del put
  split <;> rfl
theorem mne {m : Mu} {a b : Addr} {o : MO} (h : m a = some o) (h' : m b = none) : a ≠ b := fun e => by
  rw [e, h'] at h
  cases h

def Ext (H H' : Hp) : Prop := ∀ a o, H a = some o → H' a = some o
theorem Ext.refl (H : Hp) : Ext H H := fun _ _ h => h
theorem Ext.trans {H H1 H2 : Hp} (a : Ext H H1) (b : Ext H1 H2) : Ext H H2 := fun x o h => b x o (a x o h)
theorem Ext.new {H : Hp} {p : Addr} {o : HO} (h : H p = none) : Ext H (upd H p o) := fun a u e => by
  rw [upd_ne (ne_of_none e h)]
  exact e

def TupAt (K : Fg) (G : Hp) (a : Addr) (xs : List V) : Prop :=
  G a = some (.tup xs) ∨ ∃ (o : Obj) (its : Array Value) (n : Nat), K.lookup a = some o ∧ o.cls = .type "tuple" ∧ o.data = .seq its n ∧ its.size ≤ sizeLine ∧ Vals xs its.toList
theorem TupAt.mono {K : Fg} {G G' : Hp} {a : Addr} {xs : List V} (e : Ext G G') (h : TupAt K G a xs) : TupAt K G' a xs := h.imp (e _ _) id
theorem TupAt.sq {K : Fg} {G H : Hp} {a : Addr} {xs : List V} (e : Ext G H) (h : TupAt K G a xs) : SqT K H a xs := h.imp (fun z => .inl (e _ _ z)) id
theorem sqlE {K : Fg} {G G' : Hp} {a : Addr} {xs : List V} (e : Ext G G') (h : SqL K G a xs) : SqL K G' a xs := h.imp (fun h => h.imp (e _ _) fun ⟨o, h⟩ => ⟨o, e _ _ h⟩) id
mutual
/-- the value v is the datum, by what is frozen -/
inductive Rp (K : Fg) (G : Hp) : V → PyData → Prop
  | non : Rp K G .non .none
  | bl (b : Bool) : Rp K G (.bl b) (.bool b)
  | int (i : Int) : Rp K G (.int i) (.int i)
  | str (x : Str) : Rp K G (.str x) (.str x)
  | lst {a : Addr} {xs : List V} {ds : List PyData} : SqL K G a xs → Rps K G xs ds → Rp K G (.ref a) (.list ds)
  | tup {a : Addr} {xs : List V} {ds : List PyData} : TupAt K G a xs → Rps K G xs ds → Rp K G (.ref a) (.tuple ds)
inductive Rps (K : Fg) (G : Hp) : List V → List PyData → Prop
  | nil : Rps K G [] []
  | cons {v : V} {vs : List V} {d : PyData} {ds : List PyData} : Rp K G v d → Rps K G vs ds → Rps K G (v :: vs) (d :: ds)
end
mutual
theorem Rp.mono {K : Fg} {G G' : Hp} (e : Ext G G') : ∀ {v : V} {d : PyData}, Rp K G v d → Rp K G' v d
  | _, _, .non => .non
  | _, _, .bl b => .bl b
  | _, _, .int i => .int i
  | _, _, .str x => .str x
  | _, _, .lst h hs => .lst (sqlE e h) (Rps.mono e hs)
  | _, _, .tup h hs => .tup (h.mono e) (Rps.mono e hs)
theorem Rps.mono {K : Fg} {G G' : Hp} (e : Ext G G') : ∀ {vs : List V} {ds : List PyData}, Rps K G vs ds → Rps K G' vs ds
  | _, _, .nil => .nil
  | _, _, .cons h hs => .cons (Rp.mono e h) (Rps.mono e hs)
end
mutual
theorem Rp.dp {K : Fg} {G H : Hp} (e : Ext G H) : ∀ {v : V} {d : PyData}, Rp K G v d → Dp K H v d
  | _, _, .non => .non
  | _, _, .bl b => .bl b
  | _, _, .int i => .int i
  | _, _, .str x => .str x
  | _, _, .lst h hs => .lst (sqlE e h) (Rps.dp e hs)
  | _, _, .tup h hs => .tup (h.sq e) (Rps.dp e hs)
theorem Rps.dp {K : Fg} {G H : Hp} (e : Ext G H) : ∀ {vs : List V} {ds : List PyData}, Rps K G vs ds → DpAll K H vs ds
  | _, _, .nil => .nil
  | _, _, .cons h hs => .cons (Rp.dp e h) (Rps.dp e hs)
end
section
variable {K : Fg} {G G' : Hp} {v : V} {vs ws : List V} {ds es : List PyData}
theorem Rps.length : ∀ {vs : List V} {ds : List PyData}, Rps K G vs ds → vs.length = ds.length
  | _, _, .nil => rfl
  | _, _, .cons _ t => congrArg Nat.succ (Rps.length t)
theorem rp_int {i : Int} (h : Rp K G v (.int i)) : v = .int i := by cases h; rfl
theorem rp_bl {b : Bool} (h : Rp K G v (.bool b)) : v = .bl b := by cases h; rfl
theorem rp_str {x : Str} (h : Rp K G v (.str x)) : v = .str x := by cases h; rfl
theorem rp_non (h : Rp K G v .none) : v = .non := by cases h; rfl
theorem rp_lst (h : Rp K G v (.list ds)) : ∃ a xs, v = .ref a ∧ SqL K G a xs ∧ Rps K G xs ds := by cases h; exact ⟨_, _, rfl, ‹_›, ‹_›⟩
theorem rp_tup (h : Rp K G v (.tuple ds)) : ∃ a xs, v = .ref a ∧ TupAt K G a xs ∧ Rps K G xs ds := by cases h; exact ⟨_, _, rfl, ‹_›, ‹_›⟩
theorem rps_ints : ∀ {ns : List Int} {vs : List V}, Rps K G vs (ns.map .int) → vs = ns.map V.int
  | [], _, h => by cases h; rfl
  | n :: ns, _, h => by
    cases h with
    | cons h1 h2 => rw [rp_int h1, rps_ints h2]; rfl
theorem rps_strs : ∀ {ns : List Str} {vs : List V}, Rps K G vs (ns.map .str) → vs = ns.map V.str
  | [], _, h => by cases h; rfl
  | n :: ns, _, h => by
    cases h with
    | cons h1 h2 => rw [rp_str h1, rps_strs h2]; rfl
theorem rps_ints' : ∀ (ns : List Int), Rps K G (ns.map V.int) (ns.map .int)
  | [] => .nil
  | n :: ns => .cons (.int n) (rps_ints' ns)
theorem rps_strs' : ∀ (ns : List Str), Rps K G (ns.map V.str) (ns.map .str)
  | [] => .nil
  | n :: ns => .cons (.str n) (rps_strs' ns)
theorem rps_bools' : ∀ (ns : List Bool), Rps K G (ns.map V.bl) (ns.map .bool)
  | [] => .nil
  | n :: ns => .cons (.bl n) (rps_bools' ns)
end

/-- the value v is u -/
def Ru (K : Fg) (G : Hp) (v : V) : U → Prop
  | .d x => Rp K G v x
  | .r a => v = .ref a
theorem Ru.mono {K : Fg} {G G' : Hp} (e : Ext G G') {v : V} : ∀ {u : U}, Ru K G v u → Ru K G' v u
  | .d _, h => Rp.mono e h
  | .r _, h => h
inductive Rus (K : Fg) (G : Hp) : List V → List U → Prop
  | nil : Rus K G [] []
  | cons {v : V} {vs : List V} {u : U} {us : List U} : Ru K G v u → Rus K G vs us → Rus K G (v :: vs) (u :: us)
section
variable {K : Fg} {G G' : Hp}
theorem Rus.mono (e : Ext G G') : ∀ {vs : List V} {us : List U}, Rus K G vs us → Rus K G' vs us
  | _, _, .nil => .nil
  | _, _, .cons h t => .cons (h.mono e) (Rus.mono e t)
theorem Rus.length : ∀ {vs : List V} {us : List U}, Rus K G vs us → vs.length = us.length
  | _, _, .nil => rfl
  | _, _, .cons _ t => congrArg Nat.succ (Rus.length t)
theorem Rus.append : ∀ {vs ws : List V} {us xs : List U}, Rus K G vs us → Rus K G ws xs → Rus K G (vs ++ ws) (us ++ xs)
  | _, _, _, _, .nil, h => h
  | _, _, _, _, .cons h t, k => .cons h (Rus.append t k)
theorem Rus.take : ∀ {vs : List V} {us : List U} (n : Nat), Rus K G vs us → Rus K G (vs.take n) (us.take n)
  | _, _, 0, _ => .nil
  | _, _, _ + 1, .nil => .nil
  | _, _, n + 1, .cons h t => .cons h (Rus.take n t)
theorem Rus.drop : ∀ {vs : List V} {us : List U} (n : Nat), Rus K G vs us → Rus K G (vs.drop n) (us.drop n)
  | _, _, 0, h => h
  | _, _, _ + 1, .nil => .nil
  | _, _, n + 1, .cons h t => Rus.drop n t
theorem Rus.set {v : V} {u : U} (r : Ru K G v u) : ∀ {vs : List V} {us : List U} (i : Nat), Rus K G vs us → Rus K G (vs.set i v) (us.set i u)
  | _, _, _, .nil => .nil
  | _, _, 0, .cons _ t => .cons r t
  | _, _, i + 1, .cons q t => .cons q (Rus.set r i t)
theorem Rus.erase : ∀ {vs : List V} {us : List U} (i : Nat), Rus K G vs us → Rus K G (vs.eraseIdx i) (us.eraseIdx i)
  | _, _, _, .nil => .nil
  | _, _, 0, .cons _ t => t
  | _, _, i + 1, .cons q t => .cons q (Rus.erase i t)
theorem Rus.get : ∀ {vs : List V} {us : List U} {i : Nat} {v : V}, Rus K G vs us → vs[i]? = some v → ∃ u, us[i]? = some u ∧ Ru K G v u
  | _, _, _, _, .nil, e => by simp at e
  | _, _, 0, _, .cons r _, e => by simp at e; subst e; exact ⟨_, rfl, r⟩
  | _, _, i + 1, _, .cons _ t, e => by
    obtain ⟨u, h1, h2⟩ := Rus.get (i := i) t (by simpa using e)
    exact ⟨u, by simpa using h1, h2⟩
theorem Rus.getU : ∀ {vs : List V} {us : List U} {i : Nat} {u : U}, Rus K G vs us → us[i]? = some u → ∃ v, vs[i]? = some v ∧ Ru K G v u
  | _, _, _, _, .nil, e => by simp at e
  | _, _, 0, _, .cons r _, e => by simp at e; subst e; exact ⟨_, rfl, r⟩
  | _, _, i + 1, _, .cons _ t, e => by
    obtain ⟨u, h1, h2⟩ := Rus.getU (i := i) t (by simpa using e)
    exact ⟨u, by simpa using h1, h2⟩
theorem Rus.reverse {vs : List V} {us : List U} (h : Rus K G vs us) : Rus K G vs.reverse us.reverse := by
  induction h with
  | nil => exact .nil
  | cons r t ih =>
    rw [List.reverse_cons, List.reverse_cons]
    exact ih.append (.cons r .nil)
theorem Rus.dropLast : ∀ {vs : List V} {us : List U}, Rus K G vs us → Rus K G vs.dropLast us.dropLast
  | _, _, .nil => .nil
  | _, _, .cons h .nil => .nil
  | _, _, .cons h (.cons h2 t) => .cons h (Rus.dropLast (.cons h2 t))
theorem rus_d : ∀ {vs : List V} {ds : List PyData}, Rps K G vs ds → Rus K G vs (ds.map U.d)
  | _, _, .nil => .nil
  | _, _, .cons h t => .cons h (rus_d t)
theorem d_rus : ∀ {ds : List PyData} {vs : List V}, Rus K G vs (ds.map U.d) → Rps K G vs ds
  | [], _, h => by cases h; exact .nil
  | d :: ds, _, h => by
    cases h with
    | cons h t => exact .cons h (d_rus t)
end
inductive Rkv (K : Fg) (G : Hp) : List (Key × V) → List (Key × U) → Prop
  | nil : Rkv K G [] []
  | cons {k : Key} {v : V} {vs : List (Key × V)} {u : U} {us : List (Key × U)} : Ru K G v u → Rkv K G vs us → Rkv K G ((k, v) :: vs) ((k, u) :: us)
theorem Rkv.mono {K : Fg} {G G' : Hp} (e : Ext G G') : ∀ {vs : List (Key × V)} {us : List (Key × U)}, Rkv K G vs us → Rkv K G' vs us
  | _, _, .nil => .nil
  | _, _, .cons h t => .cons (h.mono e) (Rkv.mono e t)

/-- what stands at the address of a thing that may change -/
def Mr (K : Fg) (G H : Hp) (a : Addr) : MO → Prop
  | .lst us => ∃ vs, H a = some (.lst vs) ∧ Rus K G vs us
  | .dct kvs => ∃ kws, H a = some (.dK kws) ∧ Rkv K G kws kvs
  | .hand => ∃ (c : Addr) (i r t : Int) (ns : List Int), H a = some (.lst [.ref c, .int i, .int r, .int t]) ∧ SqL K G c (ns.map V.int) ∧ ns.length ≤ 63 ∧ (∀ x ∈ ns, 0 ≤ x) ∧ 0 ≤ i ∧ i ≤ 63 ∧ 0 ≤ r
theorem Mr.mono {K : Fg} {G G' H : Hp} {a : Addr} (e : Ext G G') : ∀ {m : MO}, Mr K G H a m → Mr K G' H a m
  | .lst _, ⟨vs, h, r⟩ => ⟨vs, h, r.mono e⟩
  | .dct _, ⟨vs, h, r⟩ => ⟨vs, h, r.mono e⟩
  | .hand, ⟨c, i, r, t, ns, h, g, q⟩ => ⟨c, i, r, t, ns, h, sqlE e g, q⟩
theorem Mr.other {K : Fg} {G H H' : Hp} {a : Addr} (e : H' a = H a) : ∀ {m : MO}, Mr K G H a m → Mr K G H' a m
  | .lst _, ⟨vs, h, r⟩ => ⟨vs, e.trans h, r⟩
  | .dct _, ⟨vs, h, r⟩ => ⟨vs, e.trans h, r⟩
  | .hand, ⟨c, i, r, t, ns, h, g, q⟩ => ⟨c, i, r, t, ns, e.trans h, g, q⟩
theorem Mr.some {K : Fg} {G H : Hp} {a : Addr} : ∀ {m : MO}, Mr K G H a m → ∃ o, H a = some o
  | .lst _, ⟨vs, h, r⟩ => ⟨_, h⟩
  | .dct _, ⟨vs, h, r⟩ => ⟨_, h⟩
  | .hand, ⟨c, i, r, t, ns, h, _⟩ => ⟨_, h⟩
/-- the state: F a frame that nobody changes, G what is frozen, μ what may change -/
structure St3 (K : Fg) (F G H : Hp) (μ : Mu) : Prop where
  sub : Ext G H
  fr : ∀ a o, F a = some o → H a = some o ∧ G a = none ∧ μ a = none
  mu : ∀ a m, μ a = some m → G a = none ∧ Mr K G H a m
section
variable {K : Fg} {F G H : Hp} {μ : Mu} {p : Addr} {o : HO}
theorem St3.gnone (S : St3 K F G H μ) (h : H p = none) : G p = none := by
  cases q : G p with
  | none => rfl
  | some o => rw [S.sub _ _ q] at h; cases h
theorem St3.fnone (S : St3 K F G H μ) (h : H p = none) : F p = none := by
  cases q : F p with
  | none => rfl
  | some o => rw [(S.fr _ _ q).1] at h; cases h
theorem St3.mnone (S : St3 K F G H μ) (h : H p = none) : μ p = none := by
  cases q : μ p with
  | none => rfl
  | some o =>
    obtain ⟨o', e⟩ := (S.mu _ _ q).2.some
    rw [e] at h; cases h
/-- a new frozen object -/
theorem St3.newG (S : St3 K F G H μ) (h : H p = none) : Ext G (upd G p o) ∧ St3 K F (upd G p o) (upd H p o) μ := by
  have hg := S.gnone h
  have hf := S.fnone h
  have hm := S.mnone h
  refine ⟨Ext.new hg, fun a u e => ?_, fun a u e => ?_, fun a m e => ?_⟩
  · by_cases q : a = p
    · subst q; rw [upd_same] at e ⊢; exact e
    · rw [upd_ne q] at e ⊢; exact S.sub _ _ e
  · have q : a ≠ p := ne_of_none e hf
    obtain ⟨h1, h2, h3⟩ := S.fr _ _ e
    exact ⟨by rw [upd_ne q]; exact h1, by rw [upd_ne q]; exact h2, h3⟩
  · have q : a ≠ p := mne e hm
    obtain ⟨h1, h2⟩ := S.mu _ _ e
    exact ⟨by rw [upd_ne q]; exact h1, (h2.mono (Ext.new hg)).other (upd_ne q)⟩
/-- a new object that may change -/
theorem St3.newM (S : St3 K F G H μ) {m : MO} (h : H p = none) (hm : Mr K G (upd H p o) p m) : St3 K F G (upd H p o) (put μ p m) := by
  have hg := S.gnone h
  have hf := S.fnone h
  refine ⟨fun a u e => ?_, fun a u e => ?_, fun a m' e => ?_⟩
  · rw [upd_ne (ne_of_none e hg)]; exact S.sub _ _ e
  · have q : a ≠ p := ne_of_none e hf
    obtain ⟨h1, h2, h3⟩ := S.fr _ _ e
    exact ⟨by rw [upd_ne q]; exact h1, h2, by rw [put_ne q]; exact h3⟩
  · by_cases q : a = p
    · subst q; rw [put_same] at e; cases e; exact ⟨hg, hm⟩
    · rw [put_ne q] at e
      obtain ⟨h1, h2⟩ := S.mu _ _ e
      exact ⟨h1, h2.other (upd_ne q)⟩
/-- a new object that nobody tracks -/
theorem St3.newF (S : St3 K F G H μ) (h : H p = none) : St3 K (upd F p o) G (upd H p o) μ := by
  have hg := S.gnone h
  have hf := S.fnone h
  have hm := S.mnone h
  refine ⟨fun a u e => ?_, fun a u e => ?_, fun a m' e => ?_⟩
  · rw [upd_ne (ne_of_none e hg)]; exact S.sub _ _ e
  · by_cases q : a = p
    · subst q; rw [upd_same] at e ⊢; exact ⟨e, hg, hm⟩
    · rw [upd_ne q] at e
      obtain ⟨h1, h2, h3⟩ := S.fr _ _ e
      exact ⟨by rw [upd_ne q]; exact h1, h2, h3⟩
  · obtain ⟨h1, h2⟩ := S.mu _ _ e
    exact ⟨h1, h2.other (upd_ne (mne e hm))⟩
/-- a framed object written -/
theorem St3.setF {o' : HO} (S : St3 K (upd F p o) G H μ) : St3 K (upd F p o') G (upd H p o') μ := by
  obtain ⟨_, hg, hm⟩ := S.fr p o upd_same
  refine ⟨fun a u e => ?_, fun a u e => ?_, fun a m' e => ?_⟩
  · rw [upd_ne (ne_of_none e hg)]; exact S.sub _ _ e
  · by_cases q : a = p
    · subst q; rw [upd_same] at e ⊢; exact ⟨e, hg, hm⟩
    · rw [upd_ne q] at e
      obtain ⟨h1, h2, h3⟩ := S.fr a u (by rw [upd_ne q]; exact e)
      exact ⟨by rw [upd_ne q]; exact h1, h2, h3⟩
  · obtain ⟨h1, h2⟩ := S.mu _ _ e
    exact ⟨h1, h2.other (upd_ne (mne e hm))⟩
/-- a framed object becomes frozen -/
theorem St3.unF (S : St3 K (upd F p o) G H μ) (hf : F p = none) : Ext G (upd G p o) ∧ St3 K F (upd G p o) H μ := by
  obtain ⟨hh, hg, hm⟩ := S.fr p o upd_same
  refine ⟨Ext.new hg, fun a u e => ?_, fun a u e => ?_, fun a m' e => ?_⟩
  · by_cases q : a = p
    · subst q; rw [upd_same] at e; cases e; exact hh
    · rw [upd_ne q] at e; exact S.sub _ _ e
  · have q : a ≠ p := ne_of_none e hf
    obtain ⟨h1, h2, h3⟩ := S.fr a u (by rw [upd_ne q]; exact e)
    exact ⟨h1, by rw [upd_ne q]; exact h2, h3⟩
  · obtain ⟨h1, h2⟩ := S.mu _ _ e
    have q : a ≠ p := mne e hm
    exact ⟨by rw [upd_ne q]; exact h1, h2.mono (Ext.new hg)⟩
/-- a framed object becomes one that may change -/
theorem St3.unFM (S : St3 K (upd F p o) G H μ) (hf : F p = none) {m : MO} (h : Mr K G H p m) : St3 K F G H (put μ p m) := by
  obtain ⟨hh, hg, hm⟩ := S.fr p o upd_same
  refine ⟨S.sub, fun a u e => ?_, fun a m' e => ?_⟩
  · have q : a ≠ p := ne_of_none e hf
    obtain ⟨h1, h2, h3⟩ := S.fr a u (by rw [upd_ne q]; exact e)
    exact ⟨h1, h2, by rw [put_ne q]; exact h3⟩
  · by_cases q : a = p
    · subst q; rw [put_same] at e; cases e; exact ⟨hg, h⟩
    · rw [put_ne q] at e; exact S.mu _ _ e
/-- a thing that may change is changed -/
theorem St3.write (S : St3 K F G H μ) {m m' : MO} (h : μ p = some m) (hm : Mr K G (upd H p o) p m') : St3 K F G (upd H p o) (put μ p m') := by
  obtain ⟨hg, _⟩ := S.mu _ _ h
  refine ⟨fun a u e => ?_, fun a u e => ?_, fun a m' e => ?_⟩
  · rw [upd_ne (ne_of_none e hg)]; exact S.sub _ _ e
  · obtain ⟨h1, h2, h3⟩ := S.fr _ _ e
    have q : a ≠ p := fun z => by subst z; rw [h] at h3; cases h3
    exact ⟨by rw [upd_ne q]; exact h1, h2, by rw [put_ne q]; exact h3⟩
  · by_cases q : a = p
    · subst q; rw [put_same] at e; cases e; exact ⟨hg, hm⟩
    · rw [put_ne q] at e
      obtain ⟨h1, h2⟩ := S.mu _ _ e
      exact ⟨h1, h2.other (upd_ne q)⟩
/-- another word for what may change -/
theorem St3.reword (S : St3 K F G H μ) {m m' : MO} (h : μ p = some m) (hm : Mr K G H p m') : St3 K F G H (put μ p m') := by
  refine ⟨S.sub, fun a u e => ?_, fun a m'' e => ?_⟩
  · obtain ⟨h1, h2, h3⟩ := S.fr _ _ e
    have q : a ≠ p := fun z => by subst z; rw [h] at h3; cases h3
    exact ⟨h1, h2, by rw [put_ne q]; exact h3⟩
  · by_cases q : a = p
    · subst q; rw [put_same] at e; cases e; exact ⟨(S.mu _ _ h).1, hm⟩
    · rw [put_ne q] at e; exact S.mu _ _ e
theorem St3.drop (S : St3 K F G H μ) : St3 K F G H (del μ p) := by
  refine ⟨S.sub, fun a u e => ?_, fun a m e => ?_⟩
  · obtain ⟨h1, h2, h3⟩ := S.fr _ _ e
    refine ⟨h1, h2, ?_⟩
    by_cases q : a = p
    · subst q; exact del_same
    · rw [del_ne q]; exact h3
  · by_cases q : a = p
    · subst q; rw [del_same] at e; cases e
    · rw [del_ne q] at e; exact S.mu _ _ e
theorem St3.freeze (S : St3 K F G H μ) {ds : List PyData} (h : μ p = some (.lst (ds.map U.d))) : ∃ vs, Ext G (upd G p (.lst vs)) ∧ St3 K F (upd G p (.lst vs)) H (del μ p) ∧ Rp K (upd G p (.lst vs)) (.ref p) (.list ds) := by
  obtain ⟨hg, vs, hh, r⟩ := S.mu _ _ h
  have e0 : Ext G (upd G p (.lst vs)) := Ext.new hg
  refine ⟨vs, e0, ⟨fun a u e => ?_, fun a u e => ?_, fun a m e => ?_⟩, .lst (SqL.of upd_same) ((d_rus r).mono e0)⟩
  · by_cases q : a = p
    · subst q; rw [upd_same] at e; cases e; exact hh
    · rw [upd_ne q] at e; exact S.sub _ _ e
  · obtain ⟨h1, h2, h3⟩ := S.fr _ _ e
    have q : a ≠ p := fun z => by subst z; rw [h] at h3; cases h3
    exact ⟨h1, by rw [upd_ne q]; exact h2, by rw [del_ne q]; exact h3⟩
  · by_cases q : a = p
    · subst q; rw [del_same] at e; cases e
    · rw [del_ne q] at e
      obtain ⟨h1, h2⟩ := S.mu _ _ e
      exact ⟨by rw [upd_ne q]; exact h1, h2.mono e0⟩
theorem St3.lst (S : St3 K F G H μ) {us : List U} (h : μ p = some (.lst us)) : ∃ vs, H p = some (.lst vs) ∧ Rus K G vs us := (S.mu _ _ h).2
end
structure Sim (K : Fg) (F G H : Hp) (μ : Mu) (σ : L2.St) (ρ : Rho) : Prop where
  st : St3 K F G H μ
  len : σ.length = ρ.length
  sl : ∀ (i : Nat) (u : U), ρ[i]? = some (some u) → ∃ v, σ[i]? = some (some v) ∧ Ru K G v u
section
variable {K : Fg} {F G H G' H' : Hp} {μ μ' : Mu} {σ : L2.St} {ρ : Rho} {i : Nat} {v : V} {u : U}
theorem Sim.mono (S : Sim K F G H μ σ ρ) (e : Ext G G') (S' : St3 K F G' H' μ') : Sim K F G' H' μ' σ ρ :=
  ⟨S', S.len, fun i u h => let ⟨v, h1, h2⟩ := S.sl i u h; ⟨v, h1, h2.mono e⟩⟩
theorem Sim.set (S : Sim K F G H μ σ ρ) (r : Ru K G v u) : Sim K F G H μ (σ.set i (some v)) (ρ.set i (some u)) := by
  refine ⟨S.st, by rw [List.length_set, List.length_set]; exact S.len, fun j u' h => ?_⟩
  by_cases q : i = j
  · subst q
    have hl : i < (ρ.set i (some u)).length := (List.getElem?_eq_some_iff.mp h).1
    rw [List.length_set] at hl
    rw [List.getElem?_set_self hl] at h
    cases h
    exact ⟨v, List.getElem?_set_self (by rw [S.len]; exact hl), r⟩
  · rw [List.getElem?_set_ne q] at h
    obtain ⟨v', h1, h2⟩ := S.sl j u' h
    exact ⟨v', by rw [List.getElem?_set_ne q]; exact h1, h2⟩
theorem Sim.frame {F' : Hp} (S : Sim K F G H μ σ ρ) (S' : St3 K F' G H' μ') : Sim K F' G H' μ' σ ρ := ⟨S', S.len, S.sl⟩
end

/-! ### the judgements: what a reading is worth -/
abbrev XP := U → Mu → Prop
abbrev WX := Rho → Mu → XP → Prop
abbrev WB := Rho → Mu → (Bool → Mu → Prop) → Prop
abbrev WL := Rho → Mu → (List U → Mu → Prop) → Prop
def RE (K : Fg) (t : TE) (w : WX) : Prop := ∀ (F G H : Hp) (μ : Mu) (σ : L2.St) (ρ : Rho) (P : XP) (Q : VK), Sim K F G H μ σ ρ → w ρ μ P →
  (∀ v u G' H' μ', Ext G G' → St3 K F G' H' μ' → Ru K G' v u → P u μ' → Q v H') → t σ H Q
def RT (K : Fg) (t : TT) (w : WB) : Prop := ∀ (F G H : Hp) (μ : Mu) (σ : L2.St) (ρ : Rho) (P : Bool → Mu → Prop) (Q : Bool → Hp → Prop), Sim K F G H μ σ ρ → w ρ μ P →
  (∀ b G' H' μ', Ext G G' → St3 K F G' H' μ' → P b μ' → Q b H') → t σ H Q
def RA (K : Fg) (t : TA) (w : WL) : Prop := ∀ (F G H : Hp) (μ : Mu) (σ : L2.St) (ρ : Rho) (P : List U → Mu → Prop) (Q : List V → Hp → Prop), Sim K F G H μ σ ρ → w ρ μ P →
  (∀ vs us G' H' μ', Ext G G' → St3 K F G' H' μ' → Rus K G' vs us → P us μ' → Q vs H') → t σ H Q
structure End3 where
  nx : Rho → Mu → Prop
  rt : XP
  bk : Rho → Mu → Prop := fun _ _ => False
  ct : Rho → Mu → Prop := fun _ _ => False
structure Link (K : Fg) (F G : Hp) (D : Ends) (B : End3) : Prop where
  nx : ∀ σ G' H ρ μ, Ext G G' → Sim K F G' H μ σ ρ → B.nx ρ μ → D.nx σ H
  rt : ∀ v u G' H μ, Ext G G' → St3 K F G' H μ → Ru K G' v u → B.rt u μ → D.rt v H
  bk : ∀ σ G' H ρ μ, Ext G G' → Sim K F G' H μ σ ρ → B.bk ρ μ → D.bk σ H
  ct : ∀ σ G' H ρ μ, Ext G G' → Sim K F G' H μ σ ρ → B.ct ρ μ → D.ct σ H
theorem Link.mono {K : Fg} {F G G' : Hp} {D : Ends} {B : End3} (L : Link K F G D B) (e : Ext G G') : Link K F G' D B :=
  ⟨fun _ _ _ _ _ x => L.nx _ _ _ _ _ (e.trans x), fun _ _ _ _ _ x => L.rt _ _ _ _ _ (e.trans x), fun _ _ _ _ _ x => L.bk _ _ _ _ _ (e.trans x), fun _ _ _ _ _ x => L.ct _ _ _ _ _ (e.trans x)⟩
abbrev WSt := End3 → Rho → Mu → Prop
def RS (K : Fg) (t : TS) (w : WSt) : Prop := ∀ (F G H : Hp) (μ : Mu) (σ : L2.St) (ρ : Rho) (D : Ends) (B : End3), Sim K F G H μ σ ρ → Link K F G D B → w B ρ μ → t D σ H
abbrev WTg := U → Rho → Mu → (Rho → Mu → Prop) → Prop
def RG (K : Fg) (t : TG) (w : WTg) : Prop := ∀ (F G H : Hp) (μ : Mu) (σ : L2.St) (ρ : Rho) (v : V) (u : U) (P : Rho → Mu → Prop) (Q : L2.St → Hp → Prop), Sim K F G H μ σ ρ → Ru K G v u → w u ρ μ P →
  (∀ σ' G' H' ρ' μ', Ext G G' → Sim K F G' H' μ' σ' ρ' → P ρ' μ' → Q σ' H') → t v σ H Q

structure WE (X : Cx) (e : Expr) (t : TE) (w : WX) : Prop where
  pe : PE X e t
  re : RE X.K t w
structure WT (X : Cx) (e : Expr) (t : TT) (w : WB) : Prop where
  pt : PT X e t
  rt : RT X.K t w
structure WW (X : Cx) (e : Expr) (t : TT) (w : WB) : Prop where
  pw : PW X e t
  rt : RT X.K t w
structure WAr (X : Cx) (es : List Expr) (t : TA) (w : WL) : Prop where
  pa : PA X es t
  ra : RA X.K t w
structure WS (X : Cx) (s : Stmt) (t : TS) (w : WSt) : Prop where
  ps : PS X s t
  rs : RS X.K t w
structure WSs (X : Cx) (s : List Stmt) (t : TS) (w : WSt) : Prop where
  ps : PSs X s t
  rs : RS X.K t w
structure WG (X : Cx) (e : Expr) (t : TG) (w : WTg) : Prop where
  pg : PG X e t
  rg : RG X.K t w
end L3

namespace L3
open PySem PySem.Spec PyProof.Rows L2

/-! ### list + list, whoever owns them -/
def rCatW (K : Fg) : R2 := fun x y H Q => ∃ l b xs zs, x = .ref l ∧ y = .ref b ∧ SqL K H l xs ∧ SqL K H b zs ∧ xs.length + zs.length ≤ sizeLine ∧ ∀ p, H p = none → Q (.ref p) (upd H p (.lst (xs ++ zs)))
theorem op_catW {X : Cx} : OpR X (binaryOp .Add) (rCatW X.K) := by
  intro pins s σ H x y v u Q I rx ry h
  obtain ⟨l, b, xs, zs, rfl, rfl, hH, hB, hz, q⟩ := h
  cases rx
  cases ry
  obtain ⟨its, r, ⟨⟨cls, dd, data, sl⟩, n, ho, hc, hdd, hd⟩, _⟩ := I.list hH
  obtain ⟨its2, r2, ⟨⟨cls2, dd2, data2, sl2⟩, n2, ho2, hc2, hdd2, hd2⟩, _⟩ := I.list hB
  simp only at hc hd hdd hc2 hd2 hdd2
  subst hc hd hdd hc2 hd2 hdd2
  refine concat_meets ⟨_, ho, rfl⟩ ⟨_, ho2, rfl⟩ noFill_list_add seq_list_add PySem.F.slot_list_add PySem.F.entry_list_add (PySem.F.args_list_add_2 _ _) (list_addW l b its.toArray its2.toArray n n2 none none sl sl2 (by rw [List.size_toArray, List.size_toArray, ← r.length, ← r2.length]; exact hz)) ⟨ho, ho2, ?_⟩
  have ea : its.toArray ++ its2.toArray = (its ++ its2).toArray := by simp
  rw [ea]
  exact ⟨.ref _, _, I.lnew (t' := s.toks) (r.append r2) (by rw [List.length_append]; omega), rfl, q _ I.fresh⟩
/-! ### what may be read as a row of things -/
def itemsU (μ : Mu) : U → Option (List U)
  | .d (.list l) => some (l.map .d)
  | .d (.tuple l) => some (l.map .d)
  | .r a => (match μ a with
    | some (.lst us) => some us
    | _ => none)
  | _ => none
def listU (μ : Mu) : U → Option (List U)
  | .d (.list l) => some (l.map .d)
  | .r a => (match μ a with
    | some (.lst us) => some us
    | _ => none)
  | _ => none
section
variable {K : Fg} {F G H : Hp} {μ : Mu} {v : V} {u : U} {us : List U}
theorem listU_ok (S : St3 K F G H μ) (r : Ru K G v u) (h : listU μ u = some us) : ∃ a vs, v = .ref a ∧ SqL K H a vs ∧ Rus K G vs us := by
  cases u with
  | d x =>
    cases x with
    | list l =>
      obtain ⟨a, xs, rfl, h1, h2⟩ := rp_lst r
      cases h
      exact ⟨a, xs, rfl, sqlE S.sub h1, rus_d h2⟩
    | _ => cases h
  | r a =>
    have h' : (match μ a with
      | some (.lst us) => some us
      | _ => none) = some us := h
    cases q : μ a with
    | none => rw [q] at h'; cases h'
    | some m =>
      rw [q] at h'
      cases m with
      | lst ws =>
        cases h'
        obtain ⟨vs, h1, h2⟩ := S.lst q
        exact ⟨a, vs, r, SqL.of h1, h2⟩
      | _ => cases h'
theorem itemsU_ok (S : St3 K F G H μ) (r : Ru K G v u) (h : itemsU μ u = some us) : ∃ a vs, v = .ref a ∧ (SqL K H a vs ∨ SqT K H a vs) ∧ Rus K G vs us := by
  cases u with
  | d x =>
    cases x with
    | tuple l =>
      obtain ⟨a, xs, rfl, h1, h2⟩ := rp_tup r
      cases h
      exact ⟨a, xs, rfl, .inr (h1.sq S.sub), rus_d h2⟩
    | list l =>
      obtain ⟨a, vs, e, h1, h2⟩ := listU_ok (us := us) S r h
      exact ⟨a, vs, e, .inl h1, h2⟩
    | _ => cases h
  | r a =>
    obtain ⟨a, vs, e, h1, h2⟩ := listU_ok (us := us) S r h
    exact ⟨a, vs, e, .inl h1, h2⟩
end

/-! ### names, constants -/
def wV (i : Nat) : WX := fun ρ μ P => ∃ u, ρ[i]? = some (some u) ∧ P u μ
def wC (x : PyData) : WX := fun _ μ P => P (.d x) μ
section
variable {K : Fg} {X : Cx} {pos : Pos}
theorem re_var {i : Nat} : RE K (tVar i) (wV i) := fun F G H μ σ ρ P Q S ⟨u, h, p⟩ q =>
  let ⟨v, h1, h2⟩ := S.sl i u h
  ⟨v, h1, q v u G H μ (Ext.refl G) S.st h2 p⟩
theorem re_c {v : V} {x : PyData} (h : ∀ G, Rp K G v x) : RE K (tC v) (wC x) := fun F G H μ σ ρ P Q S p q => q v (.d x) G H μ (Ext.refl G) S.st (h G) p
theorem w_v (i : Nat) {x : Str} (hN : X.N[i]? = some x := by rfl) (hv : Vis X.env.scope x := by first | exact Or.inl rfl | exact Or.inr (Or.inl rfl) | exact Or.inr (Or.inr rfl)) (hd : (x == ("__debug__" : Str)) = false := by decide)
    (hcd : (x == ("__classdict__" : Str)) = false := by decide) : WE X (.Name x pos) (tVar i) (wV i) := ⟨pe_var hN hv hd hcd, re_var⟩
theorem w_int {i : Int} {j : Nat} : WE X (.Constant (.int i) j pos) (tC (.int i)) (wC (.int i)) := ⟨pe_int, re_c fun _ => .int i⟩
theorem w_bl {b : Bool} {j : Nat} : WE X (.Constant (.bool b) j pos) (tC (.bl b)) (wC (.bool b)) := ⟨pe_bl, re_c fun _ => .bl b⟩
theorem w_non {j : Nat} : WE X (.Constant .none j pos) (tC .non) (wC .none) := ⟨pe_non, re_c fun _ => .non⟩
theorem w_str {x : Str} {j : Nat} : WE X (.Constant (.str x) j pos) (tC (.str x)) (wC (.str x)) := ⟨pe_str, re_c fun _ => .str x⟩
end

/-! ### operators -/
abbrev WR := U → U → Mu → XP → Prop
def RO (K : Fg) (r : R2) (s : WR) : Prop := ∀ (F G H : Hp) (μ : Mu) (x y : V) (u w : U) (P : XP) (Q : VK), St3 K F G H μ → Ru K G x u → Ru K G y w → s u w μ P →
  (∀ v u' G' H' μ', Ext G G' → St3 K F G' H' μ' → Ru K G' v u' → P u' μ' → Q v H') → r x y H Q
def wOp (s : WR) (a b : WX) : WX := fun ρ μ P => a ρ μ fun x μ1 => b ρ μ1 fun y μ2 => s x y μ2 P
def sI (C : Int → Int → Prop) (g : Int → Int → PyData) : WR := fun u w μ P => ∃ i j, u = .d (.int i) ∧ w = .d (.int j) ∧ C i j ∧ P (.d (g i j)) μ
def sI0 (g : Int → Int → PyData) : WR := fun u w μ P => ∃ i j, u = .d (.int i) ∧ w = .d (.int j) ∧ P (.d (g i j)) μ
def sS (g : Str → Str → PyData) : WR := fun u w μ P => ∃ i j, u = .d (.str i) ∧ w = .d (.str j) ∧ P (.d (g i j)) μ
def sEq (f : Bool → Bool) : WR := fun u w μ P => ∃ a b, u = .d a ∧ w = .d b ∧ SeqAt.shaped a = true ∧ SeqAt.shaped b = true ∧ P (.d (.bool (f (PyData.eqv a b)))) μ
def sCatS : WR := fun u w μ P => ∃ i j, u = .d (.str i) ∧ w = .d (.str j) ∧ i.length + j.length ≤ sizeLine ∧ P (.d (.str (i ++ j))) μ
/-- x is a truth: b says which -/
def isTruth (b : Bool) : U → Bool
  | .d (.bool c) => c == b
  | _ => false
def sIs (b : Bool) (f : Bool → Bool) : WR := fun u w μ P => w = .d (.bool b) ∧ P (.d (.bool (f (isTruth b u)))) μ
def isNon : U → Bool
  | .d .none => true
  | _ => false
def sIsN (f : Bool → Bool) : WR := fun u w μ P => w = .d .none ∧ P (.d (.bool (f (isNon u)))) μ
/-- x in row: all texts, or all numbers -/
def sInS (f : Bool → Bool) : WR := fun u w μ P => ∃ (z : Str) (zs : List Str), u = .d (.str z) ∧ itemsU μ w = some (zs.map fun y => U.d (.str y)) ∧ P (.d (.bool (f (decide (z ∈ zs))))) μ
def sInI (f : Bool → Bool) : WR := fun u w μ P => ∃ (z : Int) (zs : List Int), u = .d (.int z) ∧ itemsU μ w = some (zs.map fun y => U.d (.int y)) ∧ P (.d (.bool (f (decide (z ∈ zs))))) μ
def ixU (μ : Mu) (u : U) (i : Int) : Option U :=
  match u with
  | .d (.str z) => if z.length ≤ sizeLine then (atI z.cps.toList i).map fun c => .d (.str ⟨#[c]⟩) else none
  | u => (itemsU μ u).bind fun us => atI us i
def sIx : WR := fun u w μ P => ∃ i z, w = .d (.int i) ∧ ixU μ u i = some z ∧ P z μ
/-- lists put together: a new frozen one -/
def sCatL : WR := fun u w μ P => ∃ (xs ys : List PyData), listU μ u = some (xs.map U.d) ∧ listU μ w = some (ys.map U.d) ∧ xs.length + ys.length ≤ sizeLine ∧ P (.d (.list (xs ++ ys))) μ
section
variable {K : Fg} {X : Cx} {pos : Pos} {a b : Expr} {ta tb : TE} {wa wb : WX}
theorem re_op {r : R2} {s : WR} (hr : RO K r s) (ha : RE K ta wa) (hb : RE K tb wb) : RE K (tOp r ta tb) (wOp s wa wb) := fun F G H μ σ ρ P Q S h q =>
  ha F G H μ σ ρ _ _ S h fun x u G1 H1 μ1 e1 S1 r1 h1 => hb F G1 H1 μ1 σ ρ _ _ (S.mono e1 S1) h1 fun y w G2 H2 μ2 e2 S2 r2 h2 =>
    hr F G2 H2 μ2 x y u w P Q S2 (r1.mono e2) r2 h2 fun v u' G3 H3 μ3 e3 S3 r3 p => q v u' G3 H3 μ3 ((e1.trans e2).trans e3) S3 r3 p
theorem ro_I {C : Int → Int → Prop} {gv : Int → Int → V} {g : Int → Int → PyData} (hg : ∀ G i j, Rp K G (gv i j) (g i j)) : RO K (rI C gv) (sI C g) := fun F G H μ x y u w P Q S rx ry ⟨i, j, e1, e2, c, p⟩ q => by
  subst e1 e2
  exact ⟨i, j, rp_int rx, rp_int ry, c, q (gv i j) (.d (g i j)) G H μ (Ext.refl G) S (hg G i j) p⟩
theorem ro_I0 {gv : Int → Int → V} {g : Int → Int → PyData} (hg : ∀ G i j, Rp K G (gv i j) (g i j)) : RO K (rI0 gv) (sI0 g) := fun F G H μ x y u w P Q S rx ry ⟨i, j, e1, e2, p⟩ q => by
  subst e1 e2
  exact ⟨i, j, rp_int rx, rp_int ry, q (gv i j) (.d (g i j)) G H μ (Ext.refl G) S (hg G i j) p⟩
theorem ro_S {gv : Str → Str → V} {g : Str → Str → PyData} (hg : ∀ G i j, Rp K G (gv i j) (g i j)) : RO K (fun x y H Q => ∃ i j, x = .str i ∧ y = .str j ∧ Q (gv i j) H) (sS g) := fun F G H μ x y u w P Q S rx ry ⟨i, j, e1, e2, p⟩ q => by
  subst e1 e2
  exact ⟨i, j, rp_str rx, rp_str ry, q (gv i j) (.d (g i j)) G H μ (Ext.refl G) S (hg G i j) p⟩
theorem ro_eq : RO K (rEqD K) (sEq id) := fun F G H μ x y u w P Q S rx ry ⟨a, b, e1, e2, s1, s2, p⟩ q => by
  subst e1 e2
  exact ⟨a, b, Rp.dp S.sub rx, Rp.dp S.sub ry, s1, s2, q (.bl _) (.d (.bool _)) G H μ (Ext.refl G) S (Rp.bl _) p⟩
theorem ro_ne : RO K (rNeD K) (sEq not) := fun F G H μ x y u w P Q S rx ry ⟨a, b, e1, e2, s1, s2, p⟩ q => by
  subst e1 e2
  exact ⟨a, b, Rp.dp S.sub rx, Rp.dp S.sub ry, s1, s2, q (.bl _) (.d (.bool _)) G H μ (Ext.refl G) S (Rp.bl _) p⟩
theorem ro_catS : RO K (fun x y H Q => ∃ i j, x = .str i ∧ y = .str j ∧ i.length + j.length ≤ sizeLine ∧ Q (.str (i ++ j)) H) sCatS := fun F G H μ x y u w P Q S rx ry ⟨i, j, e1, e2, z, p⟩ q => by
  subst e1 e2
  exact ⟨i, j, rp_str rx, rp_str ry, z, q (.str _) (.d (.str _)) G H μ (Ext.refl G) S (Rp.str _) p⟩
/-- x is b, b a written truth -/
def rIsB (b : Bool) (f : Bool → Bool) : R2 := fun x y H Q => y = .bl b ∧ Q (.bl (f (decide (x = .bl b)))) H
theorem op_isB {b : Bool} : OpR X (compareOp .Is) (rIsB b id) := by
  intro pins s σ H x y v u Q I rx ry h
  obtain ⟨rfl, q⟩ := h
  cases (show u = Value.bool b from ry)
  by_cases e : x = .bl b
  · subst e
    cases (show v = Value.bool b from rx)
    exact wpAny_is_self rfl ⟨.bl true, H, I, rfl, by simpa using q⟩
  · have hv : v ≠ Value.bool b := fun z => by
      subst z
      cases x with
      | bl c =>
        have : Value.bool b = Value.bool c := rx
        cases this
        exact e rfl
      | non => cases rx
      | int i => obtain ⟨t, h⟩ := rx; cases h
      | str i => obtain ⟨t, h⟩ := rx; cases h
      | byt i => obtain ⟨t, h⟩ := rx; cases h
      | flt i => obtain ⟨t, h⟩ := rx; cases h
      | ref a => cases rx
      | ty n => cases rx
    have hp : plainIs v (.bool b) = true := by
      cases x with
      | bl c => cases (show v = Value.bool c from rx); rfl
      | non => cases rx; rfl
      | int i => obtain ⟨t, rfl⟩ := rx; rfl
      | str i => obtain ⟨t, rfl⟩ := rx; rfl
      | byt i => obtain ⟨t, rfl⟩ := rx; rfl
      | flt i => obtain ⟨t, rfl⟩ := rx; rfl
      | ref a => cases rx; rfl
      | ty n => cases (show v = Value.type n from rx); rfl
    exact wpAny_is_other hp hv ⟨.bl false, H, I, rfl, by simpa [e] using q⟩
theorem op_isnotB {b : Bool} : OpR X (compareOp .IsNot) (rIsB b not) := by
  intro pins s σ H x y v u Q I rx ry h
  obtain ⟨rfl, q⟩ := h
  cases (show u = Value.bool b from ry)
  by_cases e : x = .bl b
  · subst e
    cases (show v = Value.bool b from rx)
    exact wpAny_isNot_self rfl ⟨.bl false, H, I, rfl, by simpa using q⟩
  · have hv : v ≠ Value.bool b := fun z => by
      subst z
      cases x with
      | bl c =>
        have : Value.bool b = Value.bool c := rx
        cases this
        exact e rfl
      | non => cases rx
      | int i => obtain ⟨t, h⟩ := rx; cases h
      | str i => obtain ⟨t, h⟩ := rx; cases h
      | byt i => obtain ⟨t, h⟩ := rx; cases h
      | flt i => obtain ⟨t, h⟩ := rx; cases h
      | ref a => cases rx
      | ty n => cases rx
    have hp : plainIs v (.bool b) = true := by
      cases x with
      | bl c => cases (show v = Value.bool c from rx); rfl
      | non => cases rx; rfl
      | int i => obtain ⟨t, rfl⟩ := rx; rfl
      | str i => obtain ⟨t, rfl⟩ := rx; rfl
      | byt i => obtain ⟨t, rfl⟩ := rx; rfl
      | flt i => obtain ⟨t, rfl⟩ := rx; rfl
      | ref a => cases rx; rfl
      | ty n => cases (show v = Value.type n from rx); rfl
    exact wpAny_isNot_other hp hv ⟨.bl true, H, I, rfl, by simpa [e] using q⟩
theorem ro_isB {b : Bool} {f : Bool → Bool} : RO K (rIsB b f) (sIs b f) := fun F G H μ x y u w P Q S rx ry ⟨e, p⟩ q => by
  subst e
  refine ⟨rp_bl ry, ?_⟩
  have e : decide (x = .bl b) = isTruth b u := by
    cases u with
    | d z =>
      cases z with
      | bool c =>
        rw [rp_bl rx]
        show decide (V.bl c = V.bl b) = (c == b)
        by_cases h : c = b
        · subst h; simp
        · have : ¬ V.bl c = V.bl b := fun z => h (V.bl.inj z)
          simp [h]
      | none => rw [rp_non rx]; rfl
      | int i => rw [rp_int rx]; rfl
      | str i => rw [rp_str rx]; rfl
      | list l => obtain ⟨a, xs, rfl, _⟩ := rp_lst rx; rfl
      | tuple l => obtain ⟨a, xs, rfl, _⟩ := rp_tup rx; rfl
      | dict l => cases rx
    | r a => rw [show x = .ref a from rx]; rfl
  rw [e]
  exact q (.bl _) (.d (.bool _)) G H μ (Ext.refl G) S (Rp.bl _) p
theorem ro_isN : RO K (fun x y H Q => y = .non ∧ Q (.bl (decide (x = .non))) H) (sIsN id) := fun F G H μ x y u w P Q S rx ry ⟨e, p⟩ q => by
  subst e
  refine ⟨rp_non ry, ?_⟩
  have e : decide (x = .non) = isNon u := by
    cases u with
    | d z =>
      cases z with
      | bool c => rw [rp_bl rx]; rfl
      | none => rw [rp_non rx]; rfl
      | int i => rw [rp_int rx]; rfl
      | str i => rw [rp_str rx]; rfl
      | list l => obtain ⟨a, xs, rfl, _⟩ := rp_lst rx; rfl
      | tuple l => obtain ⟨a, xs, rfl, _⟩ := rp_tup rx; rfl
      | dict l => cases rx
    | r a => rw [show x = .ref a from rx]; rfl
  rw [e]
  exact q (.bl _) (.d (.bool _)) G H μ (Ext.refl G) S (Rp.bl _) p
theorem ro_notN : RO K (fun x y H Q => y = .non ∧ Q (.bl (!decide (x = .non))) H) (sIsN not) := fun F G H μ x y u w P Q S rx ry ⟨e, p⟩ q => by
  subst e
  refine ⟨rp_non ry, ?_⟩
  have e : decide (x = .non) = isNon u := by
    cases u with
    | d z =>
      cases z with
      | bool c => rw [rp_bl rx]; rfl
      | none => rw [rp_non rx]; rfl
      | int i => rw [rp_int rx]; rfl
      | str i => rw [rp_str rx]; rfl
      | list l => obtain ⟨a, xs, rfl, _⟩ := rp_lst rx; rfl
      | tuple l => obtain ⟨a, xs, rfl, _⟩ := rp_tup rx; rfl
      | dict l => cases rx
    | r a => rw [show x = .ref a from rx]; rfl
  rw [e]
  exact q (.bl _) (.d (.bool _)) G H μ (Ext.refl G) S (Rp.bl _) p
theorem rus_map_str {G : Hp} : ∀ {zs : List Str} {vs : List V}, Rus K G vs (zs.map fun y => U.d (.str y)) → vs = zs.map V.str
  | [], _, h => by cases h; rfl
  | z :: zs, _, h => by
    cases h with
    | cons h t => rw [rp_str h, rus_map_str t]; rfl
theorem rus_map_int {G : Hp} : ∀ {zs : List Int} {vs : List V}, Rus K G vs (zs.map fun y => U.d (.int y)) → vs = zs.map V.int
  | [], _, h => by cases h; rfl
  | z :: zs, _, h => by
    cases h with
    | cons h t => rw [rp_int h, rus_map_int t]; rfl
theorem inV_str (z : Str) : ∀ zs : List Str, inV (.str z) (zs.map V.str) = decide (z ∈ zs)
  | [] => rfl
  | y :: ys => by
    have ih := inV_str z ys
    unfold inV at ih ⊢
    rw [List.map_cons, List.any_cons, ih]
    show ((y == z) || decide (z ∈ ys)) = decide (z ∈ y :: ys)
    by_cases h : y = z
    · subst h; simp
    · have h2 : ¬ z = y := fun e => h e.symm
      simp [h, h2]
theorem inV_int (z : Int) : ∀ zs : List Int, inV (.int z) (zs.map V.int) = decide (z ∈ zs)
  | [] => rfl
  | y :: ys => by
    have ih := inV_int z ys
    unfold inV at ih ⊢
    rw [List.map_cons, List.any_cons, ih]
    show ((y == z) || decide (z ∈ ys)) = decide (z ∈ y :: ys)
    by_cases h : y = z
    · subst h; simp
    · have h2 : ¬ z = y := fun e => h e.symm
      simp [h, h2]
theorem flat_str : ∀ zs : List Str, (zs.map V.str).all flatV = true
  | [] => rfl
  | _ :: zs => flat_str zs
theorem flat_int : ∀ zs : List Int, (zs.map V.int).all flatV = true
  | [] => rfl
  | _ :: zs => flat_int zs
theorem ro_inS {neg : Bool} : RO K (rIn K neg) (sInS fun b => if neg then !b else b) := fun F G H μ x y u w P Q S rx ry ⟨z, zs, e1, h, p⟩ q => by
  subst e1
  obtain ⟨a, vs, rfl, hs, r⟩ := itemsU_ok S ry h
  rw [rus_map_str r] at hs
  rw [rp_str rx]
  refine ⟨a, _, rfl, hs, rfl, flat_str zs, ?_⟩
  rw [inV_str]
  exact q (.bl _) (.d (.bool _)) G H μ (Ext.refl G) S (Rp.bl _) p
theorem ro_inI {neg : Bool} : RO K (rIn K neg) (sInI fun b => if neg then !b else b) := fun F G H μ x y u w P Q S rx ry ⟨z, zs, e1, h, p⟩ q => by
  subst e1
  obtain ⟨a, vs, rfl, hs, r⟩ := itemsU_ok S ry h
  rw [rus_map_int r] at hs
  rw [rp_int rx]
  refine ⟨a, _, rfl, hs, rfl, flat_int zs, ?_⟩
  rw [inV_int]
  exact q (.bl _) (.d (.bool _)) G H μ (Ext.refl G) S (Rp.bl _) p
theorem atI_rus {G : Hp} {vs : List V} {us : List U} {i : Int} {z : U} (r : Rus K G vs us) (h : atI us i = some z) : ∃ v, atI vs i = some v ∧ Ru K G v z := by
  unfold atI at h ⊢
  rw [r.length]
  cases q : ixN us.length i with
  | none => rw [q] at h; cases h
  | some j =>
    rw [q] at h
    exact r.getU h
theorem ro_ix : RO K (rIx K) sIx := fun F G H μ x y u w P Q S rx ry ⟨i, z, e1, h, p⟩ q => by
  subst e1
  rw [rp_int ry]
  by_cases hs : ∃ t, u = .d (.str t)
  · obtain ⟨t, rfl⟩ := hs
    have h' : (if t.length ≤ sizeLine then (atI t.cps.toList i).map fun c => U.d (.str ⟨#[c]⟩) else none) = some z := h
    by_cases hz : t.length ≤ sizeLine
    · rw [if_pos hz] at h'
      cases hc : atI t.cps.toList i with
      | none => rw [hc] at h'; cases h'
      | some c =>
        rw [hc] at h'
        cases h'
        exact .inr (.inr ⟨t, i, c, rp_str rx, rfl, hz, hc, q (.str _) (.d (.str _)) G H μ (Ext.refl G) S (Rp.str _) p⟩)
    · rw [if_neg hz] at h'; cases h'
  · have h' : ((itemsU μ u).bind fun us => atI us i) = some z := by
      unfold ixU at h
      split at h
      · exact absurd ⟨_, rfl⟩ hs
      · exact h
    cases hi : itemsU μ u with
    | none => rw [hi] at h'; cases h'
    | some us =>
      rw [hi] at h'
      obtain ⟨a, vs, rfl, hq, r⟩ := itemsU_ok S rx hi
      obtain ⟨v, hv, rv⟩ := atI_rus r h'
      rcases hq with hq | hq
      · exact .inl ⟨a, vs, i, v, rfl, rfl, hq, hv, q _ _ G H μ (Ext.refl G) S rv p⟩
      · exact .inr (.inl ⟨a, vs, i, v, rfl, rfl, hq, hv, q _ _ G H μ (Ext.refl G) S rv p⟩)
theorem ro_catL : RO K (rCatW K) sCatL := fun F G H μ x y u w P Q S rx ry ⟨xs, ys, h1, h2, z, pp⟩ q => by
  obtain ⟨a, vs, rfl, k1, r1⟩ := listU_ok S rx h1
  obtain ⟨b, ws, rfl, k2, r2⟩ := listU_ok S ry h2
  have l1 := r1.length
  have l2 := r2.length
  rw [List.length_map] at l1 l2
  refine ⟨a, b, vs, ws, rfl, rfl, k1, k2, by rw [l1, l2]; exact z, fun p hp => ?_⟩
  obtain ⟨e, S'⟩ := S.newG (o := .lst (vs ++ ws)) hp
  refine q (.ref p) (.d (.list (xs ++ ys))) _ _ μ e S' (Rp.lst (SqL.of upd_same) ?_) pp
  have r3 : Rus K G (vs ++ ws) ((xs ++ ys).map U.d) := by
    rw [List.map_append]; exact r1.append r2
  exact (d_rus r3).mono e

theorem w_bin {op : Operator} {r : R2} {s : WR} (ho : OpR X (binaryOp op) r) (hr : RO X.K r s) (ha : WE X a ta wa) (hb : WE X b tb wb) : WE X (.BinOp a op b pos) (tOp r ta tb) (wOp s wa wb) := ⟨pe_op ho ha.pe hb.pe, re_op hr ha.re hb.re⟩
theorem w_cmp {op : CmpOp} {r : R2} {s : WR} (ho : OpR X (compareOp op) r) (hr : RO X.K r s) (ha : WE X a ta wa) (hb : WE X b tb wb) (hm : behindInMarks op b = false) : WE X (.Compare a [op] [b] pos) (tOp r ta tb) (wOp s wa wb) := ⟨pe_cmpR ho ha.pe hb.pe hm, re_op hr ha.re hb.re⟩
theorem w_ix (ha : WE X a ta wa) (hb : WE X b tb wb) (hs : PlainIx b := by exact fun _ _ => rfl) : WE X (.Subscript a b pos) (tOp (rIx X.K) ta tb) (wOp sIx wa wb) := ⟨pe_ix ix_seq ha.pe hb.pe hs, re_op ro_ix ha.re hb.re⟩
end
section
variable {X : Cx} {pos : Pos} {a b : Expr} {ta tb : TE} {wa wb : WX}
end
end L3

namespace L3
open PySem PySem.Spec PyProof.Rows L2

/-! ### tests, truths -/
def wB (w : WX) : WB := fun ρ μ P => w ρ μ fun x μ1 => ∃ c, x = .d (.bool c) ∧ P c μ1
def wAnd (a b : WB) : WB := fun ρ μ P => a ρ μ fun c μ1 => if c = true then b ρ μ1 P else P false μ1
def wOr (a b : WB) : WB := fun ρ μ P => a ρ μ fun c μ1 => if c = true then P true μ1 else b ρ μ1 P
def wNot (a : WB) : WB := fun ρ μ P => a ρ μ fun c μ1 => P (!c) μ1
def wAndV (a b : WX) : WX := fun ρ μ P => a ρ μ fun x μ1 => ∃ c, x = .d (.bool c) ∧ if c = true then b ρ μ1 P else P (.d (.bool false)) μ1
def wOrV (a b : WX) : WX := fun ρ μ P => a ρ μ fun x μ1 => ∃ c, x = .d (.bool c) ∧ if c = true then P (.d (.bool true)) μ1 else b ρ μ1 P
def wNotV (a : WX) : WX := fun ρ μ P => a ρ μ fun x μ1 => ∃ c, x = .d (.bool c) ∧ P (.d (.bool (!c))) μ1
def wIf (t : WB) (a b : WX) : WX := fun ρ μ P => t ρ μ fun c μ1 => if c = true then a ρ μ1 P else b ρ μ1 P
/-- the truth of a thing that may be read as a row -/
def wTruL (a : WX) : WB := fun ρ μ P => a ρ μ fun x μ1 => ∃ us, itemsU μ1 x = some us ∧ P (!us.isEmpty) μ1
section
variable {K : Fg} {X : Cx} {pos : Pos} {a b c : Expr} {rest : List Expr} {ta tb : TE} {wa wb : WX} {tc td : TT} {wc wd : WB}
theorem rt_B (h : RE K ta wa) : RT K (tB ta) (wB wa) := fun F G H μ σ ρ P Q S w q => h F G H μ σ ρ _ _ S w fun v u G1 H1 μ1 e1 S1 r1 ⟨c, e, p⟩ => by
  subst e
  exact ⟨c, rp_bl r1, q c G1 H1 μ1 e1 S1 p⟩
theorem w_val (h : WE X a ta wa) (he : ∀ whole, isTrue a X.env whole = (do let v ← whole; standAt a.pos; holding [v] (truthy v)) := by intro _; rfl) : WT X a (tB ta) (wB wa) := ⟨pt_val h.pe he, rt_B h.re⟩
theorem rt_and (h : RT K tc wc) (k : RT K td wd) : RT K (tAnd tc td) (wAnd wc wd) := fun F G H μ σ ρ P Q S w q => h F G H μ σ ρ _ _ S w fun c G1 H1 μ1 e1 S1 p => by
  cases c with
  | true => exact k F G1 H1 μ1 σ ρ P Q (S.mono e1 S1) p fun d G2 H2 μ2 e2 S2 p2 => q d G2 H2 μ2 (e1.trans e2) S2 p2
  | false => exact q false G1 H1 μ1 e1 S1 p
theorem rt_or (h : RT K tc wc) (k : RT K td wd) : RT K (tOr tc td) (wOr wc wd) := fun F G H μ σ ρ P Q S w q => h F G H μ σ ρ _ _ S w fun c G1 H1 μ1 e1 S1 p => by
  cases c with
  | false => exact k F G1 H1 μ1 σ ρ P Q (S.mono e1 S1) p fun d G2 H2 μ2 e2 S2 p2 => q d G2 H2 μ2 (e1.trans e2) S2 p2
  | true => exact q true G1 H1 μ1 e1 S1 p
theorem rt_not (h : RT K tc wc) : RT K (tNot tc) (wNot wc) := fun F G H μ σ ρ P Q S w q => h F G H μ σ ρ _ _ S w fun c G1 H1 μ1 e1 S1 p => q _ G1 H1 μ1 e1 S1 p
theorem w_and1 (h : WT X a tc wc) : WW X (.BoolOp .And [a] pos) tc wc := ⟨pw_and1 h.pt, h.rt⟩
theorem w_or1 (h : WT X a tc wc) : WW X (.BoolOp .Or [a] pos) tc wc := ⟨pw_or1 h.pt, h.rt⟩
theorem w_and (h : WT X a tc wc) (k : WW X (.BoolOp .And (b :: rest) pos) td wd) : WW X (.BoolOp .And (a :: b :: rest) pos) (tAnd tc td) (wAnd wc wd) := ⟨pw_and h.pt k.pw, rt_and h.rt k.rt⟩
theorem w_or (h : WT X a tc wc) (k : WW X (.BoolOp .Or (b :: rest) pos) td wd) : WW X (.BoolOp .Or (a :: b :: rest) pos) (tOr tc td) (wOr wc wd) := ⟨pw_or h.pt k.pw, rt_or h.rt k.rt⟩
theorem w_ww (h : WW X a tc wc) : WT X a tc wc := ⟨h.pw.pt, h.rt⟩
theorem w_nott (h : WT X a tc wc) : WT X (.UnaryOp .Not a pos) (tNot tc) (wNot wc) := ⟨pt_not h.pt, rt_not h.rt⟩
theorem w_one {op} (h : WE X a ta wa) : WE X (.BoolOp op [a] pos) ta wa := ⟨pe_one h.pe, h.re⟩
theorem re_andV (h : RE K ta wa) (k : RE K tb wb) : RE K (tAndV ta tb) (wAndV wa wb) := fun F G H μ σ ρ P Q S w q => h F G H μ σ ρ _ _ S w fun v u G1 H1 μ1 e1 S1 r1 ⟨c, e, p⟩ => by
  subst e
  refine ⟨c, rp_bl r1, ?_⟩
  cases c with
  | true => exact k F G1 H1 μ1 σ ρ P Q (S.mono e1 S1) p fun v u G2 H2 μ2 e2 S2 r2 p2 => q v u G2 H2 μ2 (e1.trans e2) S2 r2 p2
  | false => exact q (.bl false) (.d (.bool false)) G1 H1 μ1 e1 S1 (Rp.bl _) p
theorem re_orV (h : RE K ta wa) (k : RE K tb wb) : RE K (tOrV ta tb) (wOrV wa wb) := fun F G H μ σ ρ P Q S w q => h F G H μ σ ρ _ _ S w fun v u G1 H1 μ1 e1 S1 r1 ⟨c, e, p⟩ => by
  subst e
  refine ⟨c, rp_bl r1, ?_⟩
  cases c with
  | false => exact k F G1 H1 μ1 σ ρ P Q (S.mono e1 S1) p fun v u G2 H2 μ2 e2 S2 r2 p2 => q v u G2 H2 μ2 (e1.trans e2) S2 r2 p2
  | true => exact q (.bl true) (.d (.bool true)) G1 H1 μ1 e1 S1 (Rp.bl _) p
theorem re_notV (h : RE K ta wa) : RE K (tNotV ta) (wNotV wa) := fun F G H μ σ ρ P Q S w q => h F G H μ σ ρ _ _ S w fun v u G1 H1 μ1 e1 S1 r1 ⟨c, e, p⟩ => by
  subst e
  exact ⟨c, rp_bl r1, q (.bl (!c)) (.d (.bool (!c))) G1 H1 μ1 e1 S1 (Rp.bl _) p⟩
theorem w_andV (h : WE X a ta wa) (k : WE X (.BoolOp .And (b :: rest) pos) tb wb) : WE X (.BoolOp .And (a :: b :: rest) pos) (tAndV ta tb) (wAndV wa wb) := ⟨pe_and h.pe k.pe, re_andV h.re k.re⟩
theorem w_orV (h : WE X a ta wa) (k : WE X (.BoolOp .Or (b :: rest) pos) tb wb) : WE X (.BoolOp .Or (a :: b :: rest) pos) (tOrV ta tb) (wOrV wa wb) := ⟨pe_or h.pe k.pe, re_orV h.re k.re⟩
theorem w_notV (h : WE X a ta wa) : WE X (.UnaryOp .Not a pos) (tNotV ta) (wNotV wa) := ⟨pe_not h.pe, re_notV h.re⟩
theorem re_if (h : RT K tc wc) (k : RE K ta wa) (l : RE K tb wb) : RE K (tIf tc ta tb) (wIf wc wa wb) := fun F G H μ σ ρ P Q S w q => h F G H μ σ ρ _ _ S w fun c G1 H1 μ1 e1 S1 p => by
  cases c with
  | true => exact k F G1 H1 μ1 σ ρ P Q (S.mono e1 S1) p fun v u G2 H2 μ2 e2 S2 r2 p2 => q v u G2 H2 μ2 (e1.trans e2) S2 r2 p2
  | false => exact l F G1 H1 μ1 σ ρ P Q (S.mono e1 S1) p fun v u G2 H2 μ2 e2 S2 r2 p2 => q v u G2 H2 μ2 (e1.trans e2) S2 r2 p2
theorem w_if (h : WT X c tc wc) (k : WE X a ta wa) (l : WE X b tb wb) : WE X (.IfExp c a b pos) (tIf tc ta tb) (wIf wc wa wb) := ⟨pe_ifExp h.pt k.pe l.pe, re_if h.rt k.re l.re⟩
theorem isEmpty_len {α β : Type} {xs : List α} {ys : List β} (h : xs.length = ys.length) : xs.isEmpty = ys.isEmpty := by
  cases xs <;> cases ys <;> first | rfl | cases h
theorem rt_truL (h : RE K ta wa) : RT K (fun σ H Q => ta σ H fun x H' => ∃ k, TruV K x H' k ∧ Q k H') (wTruL wa) := fun F G H μ σ ρ P Q S w q => h F G H μ σ ρ _ _ S w fun v u G1 H1 μ1 e1 S1 r1 ⟨us, hi, p⟩ => by
  obtain ⟨x, vs, rfl, hs, r⟩ := itemsU_ok S1 r1 hi
  refine ⟨!us.isEmpty, ?_, q _ G1 H1 μ1 e1 S1 p⟩
  rcases hs with hs | hs
  · exact .inl ⟨vs, hs, by rw [isEmpty_len r.length]⟩
  · exact .inr (.inl ⟨vs, hs, by rw [isEmpty_len r.length]⟩)
theorem w_truL (h : WE X a ta wa) (he : ∀ whole, isTrue a X.env whole = (do let v ← whole; standAt a.pos; holding [v] (truthy v)) := by intro _; rfl) : WT X a (fun σ H Q => ta σ H fun x H' => ∃ k, TruV X.K x H' k ∧ Q k H') (wTruL wa) := ⟨pt_truth h.pe he, rt_truL h.re⟩
end

/-! ### argument rows, displays -/
def wNil : WL := fun _ μ P => P [] μ
def wCons (a : WX) (r : WL) : WL := fun ρ μ P => a ρ μ fun x μ1 => r ρ μ1 fun xs μ2 => P (x :: xs) μ2
def wTup (a : WL) : WX := fun ρ μ P => a ρ μ fun us μ1 => ∃ ds : List PyData, us = ds.map U.d ∧ ds.length ≤ sizeLine ∧ P (.d (.tuple ds)) μ1
def wLst (a : WL) : WX := fun ρ μ P => a ρ μ fun us μ1 => ∃ ds : List PyData, us = ds.map U.d ∧ ds.length ≤ sizeLine ∧ P (.d (.list ds)) μ1
def wLstM (a : WL) : WX := fun ρ μ P => a ρ μ fun us μ1 => us.length ≤ sizeLine ∧ ∀ p, μ1 p = none → P (.r p) (put μ1 p (.lst us))
section
variable {K : Fg} {X : Cx} {pos : Pos} {e : Expr} {es : List Expr} {te : TE} {we : WX} {t : TA} {w : WL}
theorem ra_nil : RA K tNil wNil := fun F G H μ σ ρ P Q S w q => q [] [] G H μ (Ext.refl G) S.st .nil w
theorem ra_cons (h : RE K te we) (k : RA K t w) : RA K (tCons te t) (wCons we w) := fun F G H μ σ ρ P Q S x q => h F G H μ σ ρ _ _ S x fun v u G1 H1 μ1 e1 S1 r1 p =>
  k F G1 H1 μ1 σ ρ _ _ (S.mono e1 S1) p fun vs us G2 H2 μ2 e2 S2 r2 p2 => q (v :: vs) (u :: us) G2 H2 μ2 (e1.trans e2) S2 (.cons (r1.mono e2) r2) p2
theorem w_nil : WAr X [] tNil wNil := ⟨pa_nil, ra_nil⟩
theorem w_cons (h : WE X e te we) (k : WAr X es t w) (hs : starEach (e :: es) X.env = (false, eval e X.env) :: starEach es X.env := by rfl) : WAr X (e :: es) (tCons te t) (wCons we w) := ⟨pa_cons h.pe k.pa hs, ra_cons h.re k.ra⟩
theorem re_tup (h : RA K t w) : RE K (tTup t) (wTup w) := fun F G H μ σ ρ P Q S x q => h F G H μ σ ρ _ _ S x fun vs us G1 H1 μ1 e1 S1 r1 ⟨ds, e, z, p⟩ => by
  subst e
  have hl := r1.length
  rw [List.length_map] at hl
  refine ⟨by rw [hl]; exact z, fun a ha => ?_⟩
  obtain ⟨e2, S2⟩ := S1.newG (o := .tup vs) ha
  exact q (.ref a) (.d (.tuple ds)) _ _ μ1 (e1.trans e2) S2 (Rp.tup (.inl upd_same) ((d_rus r1).mono e2)) p
theorem re_lst (h : RA K t w) : RE K (tLst t) (wLst w) := fun F G H μ σ ρ P Q S x q => h F G H μ σ ρ _ _ S x fun vs us G1 H1 μ1 e1 S1 r1 ⟨ds, e, z, p⟩ => by
  subst e
  have hl := r1.length
  rw [List.length_map] at hl
  refine ⟨by rw [hl]; exact z, fun a ha => ?_⟩
  obtain ⟨e2, S2⟩ := S1.newG (o := .lst vs) ha
  exact q (.ref a) (.d (.list ds)) _ _ μ1 (e1.trans e2) S2 (Rp.lst (SqL.of upd_same) ((d_rus r1).mono e2)) p
theorem re_lstM (h : RA K t w) : RE K (tLst t) (wLstM w) := fun F G H μ σ ρ P Q S x q => h F G H μ σ ρ _ _ S x fun vs us G1 H1 μ1 e1 S1 r1 ⟨z, p⟩ => by
  refine ⟨by rw [r1.length]; exact z, fun a ha => ?_⟩
  exact q (.ref a) (.r a) G1 _ _ e1 (S1.newM (m := .lst us) ha ⟨vs, upd_same, r1⟩) rfl (p a (S1.mnone ha))
theorem w_tup {x1} (h : WAr X es t w) : WE X (.Tuple es x1 pos) (tTup t) (wTup w) := ⟨pe_tup h.pa, re_tup h.ra⟩
theorem w_lst (h : WAr X es t w) : WE X (.List es pos) (tLst t) (wLst w) := ⟨pe_lst h.pa, re_lst h.ra⟩
theorem w_lstM (h : WAr X es t w) : WE X (.List es pos) (tLst t) (wLstM w) := ⟨pe_lst h.pa, re_lstM h.ra⟩
end

/-! ### what a def is worth, calls -/
abbrev WF := List U → Mu → XP → Prop
def sp3 (K : Fg) (w : WF) : Sp := fun vs H Q _ => ∃ (us : List U) (F G : Hp) (μ : Mu) (P : XP), St3 K F G H μ ∧ Rus K G vs us ∧ w us μ P ∧
  ∀ v u G' H' μ', Ext G G' → St3 K F G' H' μ' → Ru K G' v u → P u μ' → Q v H'
def wCall (s : WF) (w : WL) : WX := fun ρ μ P => w ρ μ fun us μ1 => s us μ1 P
section
variable {K : Fg} {X : Cx} {pos p : Pos} {e : Expr} {es : List Expr} {t : TA} {w : WL} {s : WF} {k j : Nat} {x : Str}
theorem re_call {E : XK} (h : RA K t w) : RE K (tCall (sp3 K s) [] E t) (wCall s w) := fun F G H μ σ ρ P Q S x q => h F G H μ σ ρ _ _ S x fun vs us G1 H1 μ1 e1 S1 r1 p =>
  ⟨us, F, G1, μ1, P, S1, by rw [List.append_nil]; exact r1, p, fun v u G2 H2 μ2 e2 S2 r2 p2 => q v u G2 H2 μ2 (e1.trans e2) S2 r2 p2⟩
theorem w_call (c : C8.Cal X.prog X.w X.K X.mg X.base k x (sp3 X.K s) []) (hr : Room j X.A) (hk : k ≤ j) (hg : Gl X x) (ha : WAr X (e :: es) t w)
    (hdb : (x == ("__debug__" : Str)) = false := by decide) (he : starEach (e :: es) X.env = (false, eval e X.env) :: starEach es X.env := by rfl) (hpl : (backTo pos (starEach es X.env)).any (·.1) = false := by rfl) :
    WE X (.Call (.Name x p) (e :: es) [] pos) (tCall (sp3 X.K s) [] C8.E0 t) (wCall s w) := ⟨C8.pe_c c hr hk hg ha.pa hdb he hpl, re_call ha.ra⟩
end

/-! ### built-in functions by values -/
abbrev WQ := List U → Mu → XP → Prop
def RQ (K : Fg) (r : List V → Hp → VK → Prop) (s : WQ) : Prop := ∀ (F G H : Hp) (μ : Mu) (vs : List V) (us : List U) (P : XP) (Q : VK), St3 K F G H μ → Rus K G vs us → s us μ P →
  (∀ v u' G' H' μ', Ext G G' → St3 K F G' H' μ' → Ru K G' v u' → P u' μ' → Q v H') → r vs H Q
def wQ (s : WQ) (w : WL) : WX := fun ρ μ P => w ρ μ fun us μ1 => s us μ1 P
def qLen : WQ := fun us μ P => ∃ u ws, us = [u] ∧ itemsU μ u = some ws ∧ P (.d (.int (ws.length : Int))) μ
def qLenS : WQ := fun us μ P => ∃ z : Str, us = [.d (.str z)] ∧ z.length ≤ sizeLine ∧ P (.d (.int (z.length : Int))) μ
def qInt : WQ := fun us μ P => ∃ i : Int, us = [.d (.int i)] ∧ P (.d (.int i)) μ
def qAbs : WQ := fun us μ P => ∃ i : Int, us = [.d (.int i)] ∧ P (.d (.int (if i < 0 then -i else i))) μ
def qStr : WQ := fun us μ P => ∃ i : Int, us = [.d (.int i)] ∧ i.natAbs.log2 < 1920 ∧ P (.d (.str (toString i))) μ
def qMax2 : WQ := fun us μ P => ∃ i j : Int, us = [.d (.int i), .d (.int j)] ∧ P (.d (.int (if j > i then j else i))) μ
def qMin2 : WQ := fun us μ P => ∃ i j : Int, us = [.d (.int i), .d (.int j)] ∧ P (.d (.int (if j < i then j else i))) μ
def qSortS : WQ := fun us μ P => ∃ (u : U) (xs : List Str), us = [u] ∧ listU μ u = some (xs.map fun z => U.d (.str z)) ∧ xs.length < 64 ∧ ∀ ys : List Str, ys.Perm xs → sortedS ys = true → P (.d (.list (ys.map .str))) μ
def qList : WQ := fun us μ P => ∃ (u : U) (ds : List PyData), us = [u] ∧ itemsU μ u = some (ds.map U.d) ∧ P (.d (.list ds)) μ
def qListM : WQ := fun us μ P => ∃ (u : U) (ws : List U), us = [u] ∧ itemsU μ u = some ws ∧ ∀ p, μ p = none → P (.r p) (put μ p (.lst ws))
def qTuple : WQ := fun us μ P => ∃ (u : U) (ds : List PyData), us = [u] ∧ itemsU μ u = some (ds.map U.d) ∧ P (.d (.tuple ds)) μ
def tyU : U → String
  | .d .none => "NoneType"
  | .d (.bool _) => "bool"
  | .d (.int _) => "int"
  | .d (.str _) => "str"
  | .d (.tuple _) => "tuple"
  | .d (.list _) => "list"
  | _ => "other"
def tyOk : U → Bool
  | .d .none => true
  | .d (.bool _) => true
  | .d (.int _) => true
  | .d (.str _) => true
  | .d (.tuple _) => true
  | .d (.list _) => true
  | _ => false
section
variable {K : Fg} {X : Cx} {pos p : Pos} {e : Expr} {es : List Expr} {t : TA} {w : WL} {s : WQ} {x : Str} {r : List V → Hp → VK → Prop}
theorem re_Q (hr : RQ K r s) (h : RA K t w) : RE K (tCB r t) (wQ s w) := fun F G H μ σ ρ P Q S x q => h F G H μ σ ρ _ _ S x fun vs us G1 H1 μ1 e1 S1 r1 p =>
  hr F G1 H1 μ1 vs us P Q S1 r1 p fun v u G2 H2 μ2 e2 S2 r2 p2 => q v u G2 H2 μ2 (e1.trans e2) S2 r2 p2
theorem w_qb {id : String} (hc : CallR X (.builtin id) r) (hr : RQ X.K r s) (hg : Gl X x) (hm : X.mg x = none) (hv : bootBuiltins x = some (.builtin id)) (ha : WAr X (e :: es) t w) (hn : x ≠ "__name__" := by decide) (hdb : (x == ("__debug__" : Str)) = false := by decide)
    (he : starEach (e :: es) X.env = (false, eval e X.env) :: starEach es X.env := by rfl) (hpl : (backTo pos (starEach es X.env)).any (·.1) = false := by rfl) : WE X (.Call (.Name x p) (e :: es) [] pos) (tCB r t) (wQ s w) := ⟨pe_callB hc hg hm hv ha.pa hn hdb he hpl, re_Q hr ha.ra⟩
theorem w_qt {T : String} (hc : CallR X (.type T) r) (hr : RQ X.K r s) (hg : Gl X x) (hm : X.mg x = none) (hv : bootBuiltins x = some (.type T)) (ha : WAr X (e :: es) t w) (hn : x ≠ "__name__" := by decide) (hdb : (x == ("__debug__" : Str)) = false := by decide)
    (he : starEach (e :: es) X.env = (false, eval e X.env) :: starEach es X.env := by rfl) (hpl : (backTo pos (starEach es X.env)).any (·.1) = false := by rfl) : WE X (.Call (.Name x p) (e :: es) [] pos) (tCB r t) (wQ s w) := ⟨pe_callTy hc hg hm hv ha.pa hn hdb he hpl, re_Q hr ha.ra⟩
theorem rus1 {G : Hp} {vs : List V} {u : U} (h : Rus K G vs [u]) : ∃ v, vs = [v] ∧ Ru K G v u := by
  cases h with
  | cons h t => cases t; exact ⟨_, rfl, h⟩
theorem rus2 {G : Hp} {vs : List V} {u w : U} (h : Rus K G vs [u, w]) : ∃ v x, vs = [v, x] ∧ Ru K G v u ∧ Ru K G x w := by
  cases h with
  | cons h t =>
    obtain ⟨x, rfl, h2⟩ := rus1 t
    exact ⟨_, _, rfl, h, h2⟩
theorem rq_len : RQ K (fun xs H Q => ∃ p ys, xs = [.ref p] ∧ (SqL K H p ys ∨ SqT K H p ys) ∧ Q (.int ys.length) H) qLen := fun F G H μ vs us P Q S r ⟨u, ws, e, hi, p⟩ q => by
  subst e
  obtain ⟨v, rfl, q1⟩ := rus1 r
  obtain ⟨a, ys, rfl, hs, r2⟩ := itemsU_ok S q1 hi
  refine ⟨a, ys, rfl, hs, ?_⟩
  rw [r2.length]
  exact q _ (.d (.int _)) G H μ (Ext.refl G) S (Rp.int _) p
theorem rq_lenS : RQ K (fun xs H Q => ∃ z, xs = [.str z] ∧ z.length ≤ sizeLine ∧ Q (.int z.length) H) qLenS := fun F G H μ vs us P Q S r ⟨z, e, hz, p⟩ q => by
  subst e
  obtain ⟨v, rfl, q1⟩ := rus1 r
  rw [rp_str q1]
  exact ⟨z, rfl, hz, q _ (.d (.int _)) G H μ (Ext.refl G) S (Rp.int _) p⟩
theorem rq_int : RQ K (fun xs H Q => (∃ i, xs = [.int i] ∧ Q (.int i) H) ∨ ∃ k, xs = [.bl k] ∧ Q (.int (if k then 1 else 0)) H) qInt := fun F G H μ vs us P Q S r ⟨z, e, p⟩ q => by
  subst e
  obtain ⟨v, rfl, q1⟩ := rus1 r
  rw [rp_int q1]
  exact .inl ⟨z, rfl, q _ (.d (.int _)) G H μ (Ext.refl G) S (Rp.int _) p⟩
theorem rq_abs : RQ K (fun xs H Q => ∃ i, xs = [.int i] ∧ Q (.int (if i < 0 then -i else i)) H) qAbs := fun F G H μ vs us P Q S r ⟨z, e, p⟩ q => by
  subst e
  obtain ⟨v, rfl, q1⟩ := rus1 r
  rw [rp_int q1]
  exact ⟨z, rfl, q _ (.d (.int _)) G H μ (Ext.refl G) S (Rp.int _) p⟩
theorem rq_str : RQ K (fun xs H Q => ∃ i, xs = [.int i] ∧ i.natAbs.log2 < 1920 ∧ Q (.str (toString i)) H) qStr := fun F G H μ vs us P Q S r ⟨z, e, hz, p⟩ q => by
  subst e
  obtain ⟨v, rfl, q1⟩ := rus1 r
  rw [rp_int q1]
  exact ⟨z, rfl, hz, q _ (.d (.str _)) G H μ (Ext.refl G) S (Rp.str _) p⟩
theorem rq_max2 : RQ K (fun xs H Q => ∃ i j, xs = [.int i, .int j] ∧ Q (.int (if j > i then j else i)) H) qMax2 := fun F G H μ vs us P Q S r ⟨i, j, e, p⟩ q => by
  subst e
  obtain ⟨v, x, rfl, q1, q2⟩ := rus2 r
  rw [rp_int q1, rp_int q2]
  exact ⟨i, j, rfl, q _ (.d (.int _)) G H μ (Ext.refl G) S (Rp.int _) p⟩
theorem rq_min2 : RQ K (fun xs H Q => ∃ i j, xs = [.int i, .int j] ∧ Q (.int (if j < i then j else i)) H) qMin2 := fun F G H μ vs us P Q S r ⟨i, j, e, p⟩ q => by
  subst e
  obtain ⟨v, x, rfl, q1, q2⟩ := rus2 r
  rw [rp_int q1, rp_int q2]
  exact ⟨i, j, rfl, q _ (.d (.int _)) G H μ (Ext.refl G) S (Rp.int _) p⟩
theorem rq_sortS : RQ K (rSortedS K) qSortS := fun F G H μ vs us P Q S r ⟨u, xs, e, hi, hz, p⟩ q => by
  subst e
  obtain ⟨v, rfl, q1⟩ := rus1 r
  obtain ⟨a, ys, rfl, hs, r2⟩ := listU_ok S q1 hi
  rw [rus_map_str r2] at hs
  refine ⟨a, xs, rfl, hs, hz, fun zs l hp hso hl => ?_⟩
  obtain ⟨e2, S2⟩ := S.newG (o := .lst (zs.map V.str)) hl
  exact q (.ref l) (.d (.list (zs.map .str))) _ _ μ e2 S2 (Rp.lst (SqL.of upd_same) (rps_strs' zs)) (p zs hp hso)
theorem rq_list : RQ K (fun xs H Q => ∃ p ys, xs = [.ref p] ∧ (SqL K H p ys ∨ SqT K H p ys) ∧ ∀ l, H l = none → Q (.ref l) (upd H l (.lst ys))) qList := fun F G H μ vs us P Q S r ⟨u, ds, e, hi, p⟩ q => by
  subst e
  obtain ⟨v, rfl, q1⟩ := rus1 r
  obtain ⟨a, ys, rfl, hs, r2⟩ := itemsU_ok S q1 hi
  refine ⟨a, ys, rfl, hs, fun l hl => ?_⟩
  obtain ⟨e2, S2⟩ := S.newG (o := .lst ys) hl
  exact q (.ref l) (.d (.list ds)) _ _ μ e2 S2 (Rp.lst (SqL.of upd_same) ((d_rus r2).mono e2)) p
theorem rq_listM : RQ K (fun xs H Q => ∃ p ys, xs = [.ref p] ∧ (SqL K H p ys ∨ SqT K H p ys) ∧ ∀ l, H l = none → Q (.ref l) (upd H l (.lst ys))) qListM := fun F G H μ vs us P Q S r ⟨u, ws, e, hi, p⟩ q => by
  subst e
  obtain ⟨v, rfl, q1⟩ := rus1 r
  obtain ⟨a, ys, rfl, hs, r2⟩ := itemsU_ok S q1 hi
  exact ⟨a, ys, rfl, hs, fun l hl => q (.ref l) (.r l) G _ _ (Ext.refl G) (S.newM (m := .lst ws) hl ⟨ys, upd_same, r2⟩) rfl (p l (S.mnone hl))⟩
theorem d_inj : ∀ {l m : List PyData}, l.map U.d = m.map U.d → l = m
  | [], [], _ => rfl
  | [], _ :: _, h => by cases h
  | _ :: _, [], h => by cases h
  | x :: l, y :: m, h => by
    rw [List.map_cons, List.map_cons] at h
    injection h with h1 h2
    injection h1 with h1
    rw [h1, d_inj h2]
theorem rq_tuple : RQ K (fun xs H Q => ∃ p ys, xs = [.ref p] ∧ ((SqL K H p ys ∧ ∀ l, H l = none → Q (.ref l) (upd H l (.tup ys))) ∨ (SqT K H p ys ∧ Q (.ref p) H))) qTuple := fun F G H μ vs us P Q S r ⟨u, ds, e, hi, p⟩ q => by
  subst e
  obtain ⟨v, rfl, q1⟩ := rus1 r
  by_cases ht : ∃ l, u = .d (.tuple l)
  · obtain ⟨l, rfl⟩ := ht
    obtain ⟨a, xs, rfl, h1, h2⟩ := rp_tup q1
    have e : l.map U.d = ds.map U.d := Option.some.inj hi
    have e2 : l = ds := d_inj e
    subst e2
    exact ⟨a, xs, rfl, .inr ⟨h1.sq S.sub, q (.ref a) (.d (.tuple l)) G H μ (Ext.refl G) S q1 p⟩⟩
  · have hl : listU μ u = some (ds.map U.d) := by
      cases u with
      | d z =>
        cases z with
        | list l => exact hi
        | tuple l => exact absurd ⟨_, rfl⟩ ht
        | _ => cases hi
      | r a => exact hi
    obtain ⟨a, ys, rfl, hs, r2⟩ := listU_ok S q1 hl
    refine ⟨a, ys, rfl, .inl ⟨hs, fun l hl => ?_⟩⟩
    obtain ⟨e2, S2⟩ := S.newG (o := .tup ys) hl
    exact q (.ref l) (.d (.tuple ds)) _ _ μ e2 S2 (Rp.tup (.inl upd_same) ((d_rus r2).mono e2)) p
/-- isinstance(e, T), T the name of a built-in class -/
def wIsi (T : String) (w : WX) : WX := fun ρ μ P => w ρ μ fun u μ1 => tyOk u = true ∧ ∃ b, kitB (tyU u) T = some b ∧ P (.d (.bool b)) μ1
def tIsi (K : Fg) (T : String) (te : TE) : TE := tCB (rIsi K) (tCons te (tCons (tC (.ty T)) tNil))
theorem tyX_ok {G H : Hp} {v : V} {u : U} (e : Ext G H) (r : Ru K G v u) (h : tyOk u = true) : TyX K H v (.type (tyU u)) := by
  cases u with
  | r a => cases h
  | d z =>
    cases z with
    | none => rw [rp_non r]; exact .base .non
    | bool b => rw [rp_bl r]; exact .base (.bl b)
    | int b => rw [rp_int r]; exact .base (.int b)
    | str b => rw [rp_str r]; exact .base (.str b)
    | list l =>
      obtain ⟨a, xs, rfl, h1, _⟩ := rp_lst r
      rcases sqlE e h1 with (h1 | ⟨o, h1⟩) | ⟨o, its, n, h1, h2, _⟩
      · exact .base (.lst h1)
      · exact .base (.frz h1)
      · exact .kList h1 h2
    | tuple l =>
      obtain ⟨a, xs, rfl, h1, _⟩ := rp_tup r
      rcases h1 with h1 | ⟨o, its, n, h1, h2, _⟩
      · exact .base (.tup (e _ _ h1))
      · exact .kTuple h1 h2
    | dict l => cases h
theorem w_isi {T : String} {y : Str} {te : TE} {we : WX} {py : Pos} (hg : Gl X x) (hm : X.mg x = none) (hv : bootBuiltins x = some (.builtin "isinstance")) (hgy : Gl X y) (hmy : X.mg y = none) (hvy : bootBuiltins y = some (.type T)) (h : WE X e te we)
    (hn : x ≠ "__name__" := by decide) (hdb : (x == ("__debug__" : Str)) = false := by decide) (hny : y ≠ "__name__" := by decide) (hdy : (y == ("__debug__" : Str)) = false := by decide)
    (he : starEach [e, .Name y py] X.env = (false, eval e X.env) :: starEach [.Name y py] X.env := by rfl) (hpl : (backTo pos (starEach [.Name y py] X.env)).any (·.1) = false := by rfl)
    (he2 : starEach [.Name y py] X.env = (false, eval (.Name y py) X.env) :: starEach [] X.env := by rfl) : WE X (.Call (.Name x p) [e, .Name y py] [] pos) (tIsi X.K T te) (wIsi T we) :=
  ⟨pe_callB call_isi hg hm hv (pa_cons h.pe (pa_cons (pe_bltn hgy hmy hvy rfl hny hdy) pa_nil he2) he) hn hdb he hpl, fun F G H μ σ ρ P Q S x q => h.re F G H μ σ ρ _ _ S x fun v u G1 H1 μ1 e1 S1 r1 ⟨hk, b, hb, pp⟩ =>
    ⟨v, .ty T, .type (tyU u), .type T, b, rfl, .ty T, tyX_ok S1.sub r1 hk, kit_ty hb, q (.bl b) (.d (.bool b)) G1 H1 μ1 e1 S1 (Rp.bl b) pp⟩⟩
end
end L3

namespace L3
open PySem PySem.Spec PyProof.Rows L2

/-! ### methods of lists, join -/
abbrev WM := U → List U → Mu → XP → Prop
def RM (K : Fg) (r : V → List V → Hp → VK → Prop) (s : WM) : Prop := ∀ (F G H : Hp) (μ : Mu) (x : V) (vs : List V) (u : U) (us : List U) (P : XP) (Q : VK), St3 K F G H μ → Ru K G x u → Rus K G vs us → s u us μ P →
  (∀ v u' G' H' μ', Ext G G' → St3 K F G' H' μ' → Ru K G' v u' → P u' μ' → Q v H') → r x vs H Q
def isL (μ : Mu) (u : U) : Prop := ∃ us, listU μ u = some us
def wML (s : WM) (o : WX) (w : WL) : WX := fun ρ μ P => o ρ μ fun u μ1 => isL μ1 u ∧ w ρ μ1 fun us μ2 => s u us μ2 P
def mAppend : WM := fun u vs μ P => ∃ a us y, u = .r a ∧ vs = [y] ∧ μ a = some (.lst us) ∧ us.length < sizeLine ∧ P (.d .none) (put μ a (.lst (us ++ [y])))
def mPop : WM := fun u vs μ P => ∃ a us y, u = .r a ∧ vs = [] ∧ μ a = some (.lst us) ∧ us[us.length - 1]? = some y ∧ P y (put μ a (.lst us.dropLast))
def mPopAt : WM := fun u vs μ P => ∃ a us i k y, u = .r a ∧ vs = [.d (.int i)] ∧ μ a = some (.lst us) ∧ -(2 ^ 63) ≤ i ∧ i < 2 ^ 63 ∧ seqIndex? i us.length = some k ∧ us[k]? = some y ∧ P y (put μ a (.lst (us.eraseIdx k)))
def mExtendT : WM := fun u vs μ P => ∃ (a : Addr) (us : List U) (ds : List PyData), u = .r a ∧ vs = [.d (.tuple ds)] ∧ μ a = some (.lst us) ∧ us.length + ds.length ≤ sizeLine ∧ P (.d .none) (put μ a (.lst (us ++ ds.map .d)))
def mReverse : WM := fun u vs μ P => ∃ a us, u = .r a ∧ vs = [] ∧ μ a = some (.lst us) ∧ P (.d .none) (put μ a (.lst us.reverse))
section
variable {K : Fg} {X : Cx} {pos apos cpos p : Pos} {o e : Expr} {es : List Expr} {to te : TE} {wo we : WX} {t : TA} {w : WL} {name : Str} {id : String} {r : V → List V → Hp → VK → Prop} {s : WM}
theorem isL_ty {F G H : Hp} {μ : Mu} {v : V} {u : U} (S : St3 K F G H μ) (q : Ru K G v u) (h : isL μ u) : tyV K "list" v H := by
  obtain ⟨us, h⟩ := h
  obtain ⟨a, vs, rfl, h1, _⟩ := listU_ok S q h
  exact .inl ⟨rfl, vs, h1⟩
theorem re_bm (hr : RM K r s) (ho : RE K to wo) (ha : RA K t w) : RE K (tBM K "list" r to t) (wML s wo w) := fun F G H μ σ ρ P Q S x q => ho F G H μ σ ρ _ _ S x fun v u G1 H1 μ1 e1 S1 r1 ⟨hl, p⟩ =>
  ⟨isL_ty S1 r1 hl, ha F G1 H1 μ1 σ ρ _ _ (S.mono e1 S1) p fun vs us G2 H2 μ2 e2 S2 r2 p2 => hr F G2 H2 μ2 v vs u us P Q S2 (r1.mono e2) r2 p2 fun v u G3 H3 μ3 e3 S3 r3 p3 => q v u G3 H3 μ3 ((e1.trans e2).trans e3) S3 r3 p3⟩
theorem re_bm0 (hr : RM K r s) (ho : RE K to wo) : RE K (tBM0 K "list" r to) (wML s wo wNil) := fun F G H μ σ ρ P Q S x q => ho F G H μ σ ρ _ _ S x fun v u G1 H1 μ1 e1 S1 r1 ⟨hl, p⟩ =>
  ⟨isL_ty S1 r1 hl, hr F G1 H1 μ1 v [] u [] P Q S1 r1 .nil p fun v u G3 H3 μ3 e3 S3 r3 p3 => q v u G3 H3 μ3 (e1.trans e3) S3 r3 p3⟩
theorem w_bm (slot : Slot "list" name id) (hty : typeOf (.builtin id) = pure (.type "method_descriptor")) (hm : MtR X id r) (hr : RM X.K r s) (ho : WE X o to wo) (ha : WAr X (e :: es) t w)
    (hbase : attributeBase o name X.env (eval o X.env) = eval o X.env := by rfl)
    (hfew : ((backTo cpos (starEach (e :: es) X.env)).all (fun x => !x.1) && (backToKw cpos (keywordEach [] X.env)).all (fun x => x.1.isSome)
      && decide ((e :: es).length + ([] : List Keyword).length + (if ([] : List Keyword).isEmpty then 0 else 1) < 30)) = true := by rfl)
    (hline : (apos.endLine == cpos.line) = true := by rfl) (hs : starEach (e :: es) X.env = (false, eval e X.env) :: starEach es X.env := by rfl) (hplain : (backTo cpos (starEach es X.env)).any (·.1) = false := by rfl) :
    WE X (.Call (.Attribute o name apos) (e :: es) [] cpos) (tBM X.K "list" r to t) (wML s wo w) := ⟨pe_bm PySem.F.plainAttrs_list slot hty hm ho.pe ha.pa hbase hfew hline hs hplain, re_bm hr ho.re ha.ra⟩
theorem w_bm0 (slot : Slot "list" name id) (hty : typeOf (.builtin id) = pure (.type "method_descriptor")) (hm : MtR X id r) (hr : RM X.K r s) (ho : WE X o to wo)
    (hbase : attributeBase o name X.env (eval o X.env) = eval o X.env := by rfl) (hline : (apos.endLine == cpos.line) = true := by rfl) :
    WE X (.Call (.Attribute o name apos) [] [] cpos) (tBM0 X.K "list" r to) (wML s wo wNil) := ⟨pe_bm0 PySem.F.plainAttrs_list slot hty hm ho.pe hbase hline, re_bm0 hr ho.re⟩
theorem rm_append : RM K rAppend mAppend := fun F G H μ x vs u us P Q S rx rv ⟨a, ws, y, e1, e2, h, z, p⟩ q => by
  subst e1 e2
  obtain ⟨v, rfl, q1⟩ := rus1 rv
  obtain ⟨xs, h1, h2⟩ := S.lst h
  refine ⟨a, xs, v, rx, rfl, h1, by rw [h2.length]; exact z, ?_⟩
  exact q .non (.d .none) G _ _ (Ext.refl G) (S.write (m' := .lst (ws ++ [y])) h ⟨xs ++ [v], upd_same, h2.append (.cons q1 .nil)⟩) Rp.non p
theorem rm_pop : RM K rPop mPop := fun F G H μ x vs u us P Q S rx rv ⟨a, ws, y, e1, e2, h, z, p⟩ q => by
  subst e1 e2
  cases rv
  obtain ⟨xs, h1, h2⟩ := S.lst h
  obtain ⟨v, hv, rv⟩ := h2.getU z
  refine ⟨a, xs, v, rx, rfl, h1, by rw [h2.length]; exact hv, ?_⟩
  exact q v y G _ _ (Ext.refl G) (S.write (m' := .lst ws.dropLast) h ⟨xs.dropLast, upd_same, h2.dropLast⟩) rv p
theorem rm_popAt : RM K rPopAt mPopAt := fun F G H μ x vs u us P Q S rx rv ⟨a, ws, i, k, y, e1, e2, h, l1, l2, hk, z, p⟩ q => by
  subst e1 e2
  obtain ⟨v, rfl, q1⟩ := rus1 rv
  obtain ⟨xs, h1, h2⟩ := S.lst h
  obtain ⟨v2, hv, rv2⟩ := h2.getU z
  refine ⟨a, xs, i, k, v2, rx, by rw [rp_int q1], h1, l1, l2, by rw [h2.length]; exact hk, hv, ?_⟩
  exact q v2 y G _ _ (Ext.refl G) (S.write (m' := .lst (ws.eraseIdx k)) h ⟨xs.eraseIdx k, upd_same, h2.erase k⟩) rv2 p
theorem rm_reverse : RM K rReverse mReverse := fun F G H μ x vs u us P Q S rx rv ⟨a, ws, e1, e2, h, p⟩ q => by
  subst e1 e2
  cases rv
  obtain ⟨xs, h1, h2⟩ := S.lst h
  refine ⟨a, xs, rx, rfl, h1, ?_⟩
  exact q .non (.d .none) G _ _ (Ext.refl G) (S.write (m' := .lst ws.reverse) h ⟨xs.reverse, upd_same, h2.reverse⟩) Rp.non p
end

/-! ### slices -/
def cutL {α : Type} (xs : List α) (lo hi : Option Int) : List α := (xs.drop (HT.sIx xs.length 0 lo)).take (HT.sIx xs.length xs.length hi - HT.sIx xs.length 0 lo)
theorem rus_cut {K : Fg} {G : Hp} {vs : List V} {us : List U} (lo hi : Option Int) (r : Rus K G vs us) : Rus K G (cutV vs lo hi) (cutL us lo hi) := by
  unfold cutV cutL
  rw [r.length]
  exact (r.drop _).take _
theorem cut_map {α β : Type} (f : α → β) (xs : List α) (lo hi : Option Int) : cutL (xs.map f) lo hi = (cutL xs lo hi).map f := by
  unfold cutL
  rw [List.length_map, List.map_take, List.map_drop]
theorem cut_all {α : Type} (xs : List α) (lo hi : Option Int) (h : HT.sIx xs.length 0 lo = 0 ∧ HT.sIx xs.length xs.length hi = xs.length) : cutL xs lo hi = xs := by
  unfold cutL
  rw [h.1, h.2, List.drop_zero, Nat.sub_zero, List.take_length]
abbrev WO := Rho → Mu → (Option Int → Mu → Prop) → Prop
def RPt (K : Fg) (t : TO) (w : WO) : Prop := ∀ (F G H : Hp) (μ : Mu) (σ : L2.St) (ρ : Rho) (P : Option Int → Mu → Prop) (Q : Option Int → Hp → Prop), Sim K F G H μ σ ρ → w ρ μ P →
  (∀ i G' H' μ', Ext G G' → St3 K F G' H' μ' → P i μ' → Q i H') → t σ H Q
structure WPo (X : Cx) (e : Option Expr) (t : TO) (w : WO) : Prop where
  po : PO X e t
  rp : RPt X.K t w
def wNoPart : WO := fun _ μ P => P none μ
def wPart (w : WX) : WO := fun ρ μ P => w ρ μ fun u μ1 => ∃ i, u = .d (.int i) ∧ P (some i) μ1
def wSlL (w : WX) (l h : WO) : WX := fun ρ μ P => w ρ μ fun u μ1 => l ρ μ1 fun lo μ2 => h ρ μ2 fun hi μ3 => ∃ ds : List PyData, listU μ3 u = some (ds.map U.d) ∧ P (.d (.list (cutL ds lo hi))) μ3
def wSlT (w : WX) (l h : WO) : WX := fun ρ μ P => w ρ μ fun u μ1 => l ρ μ1 fun lo μ2 => h ρ μ2 fun hi μ3 => ∃ ds : List PyData, u = .d (.tuple ds) ∧ P (.d (.tuple (cutL ds lo hi))) μ3
section
variable {K : Fg} {X : Cx} {pos p2 : Pos} {e : Expr} {lo hi : Option Expr} {te : TE} {we : WX} {tl th : TO} {wl wh : WO}
theorem w_noPart : WPo X none tNoPart wNoPart := ⟨po_none, fun F G H μ σ ρ P Q S w q => q none G H μ (Ext.refl G) S.st w⟩
theorem w_part (h : WE X e te we) : WPo X (some e) (tPart te) (wPart we) := ⟨po_some h.pe, fun F G H μ σ ρ P Q S w q => h.re F G H μ σ ρ _ _ S w fun v u G1 H1 μ1 e1 S1 r1 ⟨i, e, p⟩ => by
  subst e
  exact ⟨i, rp_int r1, q _ G1 H1 μ1 e1 S1 p⟩⟩
theorem re_slL (h : RE K te we) (hl : RPt K tl wl) (hh : RPt K th wh) : RE K (tSl (rSlL K) te tl th) (wSlL we wl wh) := fun F G H μ σ ρ P Q S w q => h F G H μ σ ρ _ _ S w fun v u G1 H1 μ1 e1 S1 r1 p1 =>
  hl F G1 H1 μ1 σ ρ _ _ (S.mono e1 S1) p1 fun lo G2 H2 μ2 e2 S2 p2 => hh F G2 H2 μ2 σ ρ _ _ (S.mono (e1.trans e2) S2) p2 fun hi G3 H3 μ3 e3 S3 ⟨ds, hd, p3⟩ => by
    obtain ⟨a, vs, rfl, h1, h2⟩ := listU_ok S3 ((r1.mono e2).mono e3) hd
    refine ⟨a, vs, rfl, h1, fun l hl => ?_⟩
    obtain ⟨e4, S4⟩ := S3.newG (o := .lst (cutV vs lo hi)) hl
    have r4 := rus_cut lo hi h2
    rw [cut_map] at r4
    exact q (.ref l) (.d (.list (cutL ds lo hi))) _ _ μ3 (((e1.trans e2).trans e3).trans e4) S4 (Rp.lst (SqL.of upd_same) ((d_rus r4).mono e4)) p3
theorem re_slT (h : RE K te we) (hl : RPt K tl wl) (hh : RPt K th wh) : RE K (tSl (rSlA K) te tl th) (wSlT we wl wh) := fun F G H μ σ ρ P Q S w q => h F G H μ σ ρ _ _ S w fun v u G1 H1 μ1 e1 S1 r1 p1 =>
  hl F G1 H1 μ1 σ ρ _ _ (S.mono e1 S1) p1 fun lo G2 H2 μ2 e2 S2 p2 => hh F G2 H2 μ2 σ ρ _ _ (S.mono (e1.trans e2) S2) p2 fun hi G3 H3 μ3 e3 S3 ⟨ds, hd, p3⟩ => by
    subst hd
    have r3 : Ru K G3 v (.d (.tuple ds)) := (r1.mono e2).mono e3
    obtain ⟨a, vs, rfl, h1, h2⟩ := rp_tup r3
    have hl := h2.length
    refine ⟨a, vs, rfl, h1.sq S3.sub, fun hw => ?_, fun _ l hl => ?_⟩
    · rw [hl] at hw
      rw [cut_all ds lo hi hw] at p3
      exact q (.ref a) (.d (.tuple ds)) _ _ μ3 ((e1.trans e2).trans e3) S3 r3 p3
    · obtain ⟨e4, S4⟩ := S3.newG (o := .tup (cutV vs lo hi)) hl
      have r4 := rus_cut lo hi (rus_d h2)
      rw [cut_map] at r4
      exact q (.ref l) (.d (.tuple (cutL ds lo hi))) _ _ μ3 (((e1.trans e2).trans e3).trans e4) S4 (Rp.tup (.inl upd_same) ((d_rus r4).mono e4)) p3
theorem w_slL (h : WE X e te we) (hl : WPo X lo tl wl) (hh : WPo X hi th wh) : WE X (.Subscript e (.Slice lo hi none p2) pos) (tSl (rSlL X.K) te tl th) (wSlL we wl wh) := ⟨pe_slice sl_list h.pe hl.po hh.po, re_slL h.re hl.rp hh.rp⟩
theorem w_slT (h : WE X e te we) (hl : WPo X lo tl wl) (hh : WPo X hi th wh) : WE X (.Subscript e (.Slice lo hi none p2) pos) (tSl (rSlA X.K) te tl th) (wSlT we wl wh) := ⟨pe_slice sl_tupA h.pe hl.po hh.po, re_slT h.re hl.rp hh.rp⟩
end

/-! ### what a for walks -/
def JW (K : Fg) (G0 : Hp) (J : It) (us : List U) (Al : Mu → Prop) : Prop := ∀ (F G H : Hp) (μ : Mu), Ext G0 G → St3 K F G H μ → Al μ → ∀ i : Nat, (us.length ≤ i → J.stop i H) ∧
  ∀ u, us[i]? = some u → J.go i H ∧ ∀ x H', J.yld i H x H' → ∃ G', Ext G G' ∧ St3 K F G' H' μ ∧ Ru K G' x u
abbrev WIt := Rho → Mu → (List U → (Mu → Prop) → Mu → Prop) → Prop
def RI (K : Fg) (t : TI) (w : WIt) : Prop := ∀ (F G H : Hp) (μ : Mu) (σ : L2.St) (ρ : Rho) (P : List U → (Mu → Prop) → Mu → Prop) (R : It → Hp → Prop), Sim K F G H μ σ ρ → w ρ μ P →
  (∀ J us Al G' H' μ', Ext G G' → St3 K F G' H' μ' → JW K G' J us Al → P us Al μ' → R J H') → t σ H R
structure WI (X : Cx) (tg e : Expr) (t : TI) (w : WIt) : Prop where
  pi : PI X tg e t
  ri : RI X.K t w
/-- a list or a tuple -/
def iSeq (K : Fg) (tl : TE) : TI := fun σ H R => tl σ H fun x H1 => ∃ a, x = .ref a ∧ (((∃ xs, SqL K H1 a xs) ∧ R (Itl K a) H1) ∨ ((∃ xs, SqT K H1 a xs) ∧ R (Itt K a) H1))
theorem pi_seq {X : Cx} {tg l : Expr} {tl : TE} (hl : PE X l tl) : PI X tg l (iSeq X.K tl) := by
  refine ⟨fun pins s σ H R I h => ?_⟩
  refine thn (hl.run pins s σ H _ I h) fun v s1 ⟨x, H1, I1, r1, q1⟩ => ?_
  obtain ⟨a, e, q⟩ := q1
  subst e
  cases r1
  rcases q with ⟨⟨xs, hq⟩, q⟩ | ⟨⟨xs, hq⟩, q⟩
  · obtain ⟨its, rv, p, hz⟩ := I1.list hq
    refine wpAny_pyIter_list p.isList ?_
    refine ⟨s1.heap.objs.size, [s1.heap.objs.size], _, _, H1, rfl, I1.kept (t' := s1.toks) fun b o e => Heap.get?_push_of_some _ e, turn_list a _, ⟨_, Heap.get?_push_size _ rfl, rfl, rfl⟩, fun b hb => ?_, q⟩
    have e : b = s1.heap.objs.size := by simpa using hb
    subst e
    exact I1.fpOk (Nat.le_refl _) (I1.hok.fresh (Nat.le_refl _))
  · obtain ⟨its, rv, p, hz⟩ := I1.tuple hq
    refine wpAny_pyIter_tuple (show s1.heap.IsTuple a its.toArray from p) ?_
    refine ⟨s1.heap.objs.size, [s1.heap.objs.size], _, _, H1, rfl, I1.kept (t' := s1.toks) fun b o e => Heap.get?_push_of_some _ e, turn_tuple a _, ⟨_, Heap.get?_push_size _ rfl, rfl, rfl⟩, fun b hb => ?_, q⟩
    have e : b = s1.heap.objs.size := by simpa using hb
    subst e
    exact I1.fpOk (Nat.le_refl _) (I1.hok.fresh (Nat.le_refl _))
def jSeq (w : WX) : WIt := fun ρ μ P => w ρ μ fun u μ1 => ∃ us, itemsU μ1 u = some us ∧ P us (fun μ2 => itemsU μ2 u = some us) μ1
def jRng1 (w : WL) : WIt := fun ρ μ P => w ρ μ fun us μ1 => ∃ n : Int, us = [.d (.int n)] ∧ -(2 ^ 62) ≤ n ∧ n < 2 ^ 62 ∧ P ((List.range n.toNat).map fun i : Nat => U.d (.int (i : Int))) (fun _ => True) μ1
def jRng2 (w : WL) : WIt := fun ρ μ P => w ρ μ fun us μ1 => ∃ a b : Int, us = [.d (.int a), .d (.int b)] ∧ (-(2 ^ 62) ≤ a ∧ a < 2 ^ 62 ∧ -(2 ^ 62) ≤ b ∧ b < 2 ^ 62) ∧ P ((List.range (b - a).toNat).map fun i : Nat => U.d (.int (a + (i : Int)))) (fun _ => True) μ1
def jRev (w : WX) : WIt := fun ρ μ P => w ρ μ fun u μ1 => ∃ us, listU μ1 u = some us ∧ P us.reverse (fun μ2 => listU μ2 u = some us) μ1
section
variable {K : Fg} {X : Cx} {tg e : Expr} {te : TE} {we : WX} {ta : TA} {wa : WL} {p pos : Pos} {es : List Expr}
theorem ri_seq (h : RE K te we) : RI K (iSeq K te) (jSeq we) := fun F G H μ σ ρ P R S w q => h F G H μ σ ρ _ _ S w fun v u G1 H1 μ1 e1 S1 r1 ⟨us, hi, p⟩ => by
  by_cases hl : ∃ us, listU μ1 u = some us
  · obtain ⟨ws, hl⟩ := hl
    obtain ⟨a, vs, rfl, h1, h2⟩ := listU_ok S1 r1 hl
    refine ⟨a, rfl, .inl ⟨⟨vs, h1⟩, q _ us _ G1 H1 μ1 e1 S1 ?_ p⟩⟩
    have hne : ∀ l, u ≠ .d (.tuple l) := fun l e => by subst e; cases hl
    intro F2 G2 H2 μ2 e2 S2 al i
    have al : itemsU μ2 u = some us := al
    have al' : listU μ2 u = some us := by
      cases u with
      | d z =>
        cases z with
        | tuple l => exact absurd rfl (hne l)
        | list l => exact al
        | _ => cases al
      | r b => exact al
    obtain ⟨b, ws2, eb, k1, k2⟩ := listU_ok S2 (r1.mono e2) al'
    cases eb
    refine ⟨fun hle => ⟨ws2, k1, by rw [k2.length]; exact hle⟩, fun y hy => ?_⟩
    obtain ⟨x, hx, rx⟩ := k2.getU hy
    refine ⟨⟨ws2, x, k1, hx⟩, fun x' H' yl => ?_⟩
    obtain ⟨e, k⟩ := yl
    subst e
    have hx' := k ws2 (k1)
    rw [hx] at hx'
    cases hx'
    exact ⟨G2, Ext.refl _, S2, rx⟩
  · have ht : ∃ l, u = .d (.tuple l) := by
      cases u with
      | d z =>
        cases z with
        | tuple l => exact ⟨l, rfl⟩
        | list l => exact absurd ⟨_, rfl⟩ hl
        | _ => cases hi
      | r b => exact absurd ⟨_, hi⟩ hl
    obtain ⟨l, rfl⟩ := ht
    obtain ⟨a, vs, rfl, h1, h2⟩ := rp_tup r1
    have eus : us = l.map U.d := (Option.some.inj hi).symm
    subst eus
    refine ⟨a, rfl, .inr ⟨⟨vs, h1.sq S1.sub⟩, q _ _ _ G1 H1 μ1 e1 S1 ?_ p⟩⟩
    intro F2 G2 H2 μ2 e2 S2 al i
    have k1 : SqT K H2 a vs := (h1.mono e2).sq S2.sub
    have k2 : Rus K G2 vs (l.map U.d) := rus_d (h2.mono e2)
    refine ⟨fun hle => ⟨vs, k1, by rw [k2.length]; exact hle⟩, fun y hy => ?_⟩
    obtain ⟨x, hx, rx⟩ := k2.getU hy
    refine ⟨⟨vs, x, k1, hx⟩, fun x' H' yl => ?_⟩
    obtain ⟨e, k⟩ := yl
    subst e
    have hx' := k vs k1
    rw [hx] at hx'
    cases hx'
    exact ⟨G2, Ext.refl _, S2, rx⟩
theorem w_seq (h : WE X e te we) : WI X tg e (iSeq X.K te) (jSeq we) := ⟨pi_seq h.pe, ri_seq h.re⟩
theorem jw_rng {G0 : Hp} {lo : Int} {n : Nat} : JW K G0 (Itr lo n) ((List.range n).map fun i : Nat => U.d (.int (lo + (i : Int)))) (fun _ => True) := by
  intro F2 G2 H2 μ2 e2 S2 al i
  refine ⟨fun hle => ?_, fun y hy => ?_⟩
  · rw [List.length_map, List.length_range] at hle
    exact hle
  · have hi : i < n := by
      have := (List.getElem?_eq_some_iff.mp hy).1
      rw [List.length_map, List.length_range] at this
      exact this
    refine ⟨hi, fun x' H' yl => ?_⟩
    obtain ⟨e, k⟩ := yl
    subst e k
    rw [List.getElem?_map, List.getElem?_range hi] at hy
    cases hy
    exact ⟨G2, Ext.refl _, S2, Rp.int _⟩
theorem ri_rng1 (h : RA K ta wa) : RI K (iRng1 ta) (jRng1 wa) := fun F G H μ σ ρ P R S w q => h F G H μ σ ρ _ _ S w fun vs us G1 H1 μ1 e1 S1 r1 ⟨n, e, l1, l2, p⟩ => by
  subst e
  obtain ⟨v, rfl, q1⟩ := rus1 r1
  rw [rp_int q1]
  refine ⟨n, rfl, l1, l2, q _ _ _ G1 H1 μ1 e1 S1 ?_ p⟩
  have z := jw_rng (K := K) (G0 := G1) (lo := 0) (n := n.toNat)
  simp only [Int.zero_add] at z
  exact z
theorem ri_rng2 (h : RA K ta wa) : RI K (iRng2 ta) (jRng2 wa) := fun F G H μ σ ρ P R S w q => h F G H μ σ ρ _ _ S w fun vs us G1 H1 μ1 e1 S1 r1 ⟨a, b, e, l, p⟩ => by
  subst e
  obtain ⟨v, x, rfl, q1, q2⟩ := rus2 r1
  rw [rp_int q1, rp_int q2]
  exact ⟨a, b, rfl, l, q _ _ _ G1 H1 μ1 e1 S1 jw_rng p⟩
theorem w_rng1 (hg : Gl X "range") (hm : X.mg "range" = none) (ha : WAr X [e] ta wa) (hs : starEach [e] X.env = [(false, eval e X.env)] := by rfl) : WI X tg (.Call (.Name "range" p) [e] [] pos) (iRng1 ta) (jRng1 wa) := ⟨pi_range1 hg hm ha.pa hs, ri_rng1 ha.ra⟩
theorem w_rng2 {e2 : Expr} (hg : Gl X "range") (hm : X.mg "range" = none) (ha : WAr X [e, e2] ta wa) (hs : starEach [e, e2] X.env = [(false, eval e X.env), (false, eval e2 X.env)] := by rfl) (hs2 : starEach [e2] X.env = [(false, eval e2 X.env)] := by rfl) : WI X tg (.Call (.Name "range" p) [e, e2] [] pos) (iRng2 ta) (jRng2 wa) := ⟨pi_range2 hg hm ha.pa hs hs2, ri_rng2 ha.ra⟩
theorem ri_rev (h : RE K te we) : RI K (_root_.RT.iRevA K te) (jRev we) := fun F G H μ σ ρ P R S w q => h F G H μ σ ρ _ _ S w fun v u G1 H1 μ1 e1 S1 r1 ⟨us, hi, p⟩ => by
  obtain ⟨a, vs, rfl, h1, h2⟩ := listU_ok S1 r1 hi
  refine ⟨a, vs, rfl, .inl ⟨h1, q _ _ _ G1 H1 μ1 e1 S1 ?_ p⟩⟩
  intro F2 G2 H2 μ2 e2 S2 al i
  obtain ⟨b, ws2, eb, k1, k2⟩ := listU_ok S2 (r1.mono e2) al
  cases eb
  have hlen : ws2.length = vs.length := by rw [k2.length, h2.length]
  refine ⟨fun hle => ?_, fun y hy => ?_⟩
  · rw [List.length_reverse, ← k2.length, hlen] at hle
    exact hle
  · have hi : i < us.length := by
      have := (List.getElem?_eq_some_iff.mp hy).1
      rw [List.length_reverse] at this
      exact this
    rw [List.getElem?_reverse hi] at hy
    obtain ⟨x, hx, rx⟩ := k2.getU hy
    have hl2 : us.length = vs.length := h2.length.symm
    have hx2 : ws2[vs.length - 1 - i]? = some x := by rw [← hl2]; exact hx
    refine ⟨⟨by omega, ws2, x, k1, hx2⟩, fun x' H' yl => ?_⟩
    obtain ⟨e, k⟩ := yl
    subst e
    have hx' := k ws2 (k1)
    rw [hx2] at hx'
    cases hx'
    exact ⟨G2, Ext.refl _, S2, rx⟩
theorem w_rev (hg : Gl X "reversed") (hm : X.mg "reversed" = none) (h : WE X e te we) (hs : starEach [e] X.env = (false, eval e X.env) :: starEach [] X.env := by rfl) : WI X tg (.Call (.Name "reversed" p) [e] [] pos) (_root_.RT.iRevA X.K te) (jRev we) := ⟨_root_.RT.pi_revA hg hm h.pe hs, ri_rev h.re⟩
end

/-! ### targets -/
def gN (i : Nat) : WTg := fun u ρ μ P => P (ρ.set i (some u)) μ
def gT (l : List WTg) (u : U) (ρ : Rho) (μ : Mu) (P : Rho → Mu → Prop) : Prop := ∃ ds : List PyData, u = .d (.tuple ds) ∧ ds.length = l.length ∧ gGo l (ds.map U.d) ρ μ P
where gGo : List WTg → List U → Rho → Mu → (Rho → Mu → Prop) → Prop
  | [], _, ρ, μ, P => P ρ μ
  | g :: gs, us, ρ, μ, P => ∃ u r, us = u :: r ∧ g u ρ μ fun ρ1 μ1 => gGo gs r ρ1 μ1 P
def RGs (K : Fg) (t : TGs) (l : List WTg) : Prop := ∀ (F G H : Hp) (μ : Mu) (σ : L2.St) (ρ : Rho) (vs : List V) (us : List U) (P : Rho → Mu → Prop) (Q : L2.St → Hp → Prop), Sim K F G H μ σ ρ → Rus K G vs us → us.length = l.length → gT.gGo l us ρ μ P →
  (∀ σ' G' H' ρ' μ', Ext G G' → Sim K F G' H' μ' σ' ρ' → P ρ' μ' → Q σ' H') → t vs σ H Q
structure WGs (X : Cx) (es : List Expr) (t : TGs) (l : List WTg) : Prop where
  pg : PGs X es t
  rg : RGs X.K t l
section
variable {K : Fg} {X : Cx} {pos : Pos} {e : Expr} {es : List Expr} {t : TG} {ts : TGs} {g : WTg} {l : List WTg}
theorem rg_name {i : Nat} : RG K (gName i) (gN i) := fun F G H μ σ ρ v u P Q S r p q => q _ G H _ μ (Ext.refl G) (S.set r) p
theorem w_gn (i : Nat) {x : Str} (hN : X.N.Nodup) (hi : X.N[i]? = some x := by rfl) (hx : Loc X.env.scope x := by first | exact Or.inl rfl | exact Or.inr rfl) (hf : X.fn x = true ∨ X.env.scope.names.lookup x = some .local := by first | exact .inl rfl | exact .inr rfl) :
    WG X (.Name x pos) (gName i) (gN i) := ⟨pg_name hN hi hx hf, rg_name⟩
theorem w_gnil : WGs X [] gNil [] := ⟨pgs_nil, fun F G H μ σ ρ vs us P Q S r hl p q => by
  cases r with
  | nil => exact ⟨rfl, q σ G H ρ μ (Ext.refl G) S p⟩
  | cons _ _ => cases hl⟩
theorem w_gcons (h : WG X e t g) (k : WGs X es ts l) (hs : (assignEach (e :: es) X.env).map (·.2) = assign e X.env :: (assignEach es X.env).map (·.2) := by rfl) : WGs X (e :: es) (gCons t ts) (g :: l) :=
  ⟨pgs_cons h.pg k.pg hs, fun F G H μ σ ρ vs us P Q S r hl p q => by
    obtain ⟨u, w, e1, p⟩ := p
    subst e1
    cases r with
    | cons r1 r2 =>
      exact ⟨_, _, rfl, h.rg F G H μ σ ρ _ u _ _ S r1 p fun σ1 G1 H1 ρ1 μ1 e1 S1 p1 => k.rg F G1 H1 μ1 σ1 ρ1 _ _ P Q S1 (r2.mono e1) (Nat.succ.inj hl) p1 fun σ2 G2 H2 ρ2 μ2 e2 S2 p2 => q σ2 G2 H2 ρ2 μ2 (e1.trans e2) S2 p2⟩⟩
theorem w_gtup {k : Nat} (hc : X.calm = true) (h : WGs X es ts l) (hn : (assignEach es X.env).length = l.length := by rfl) (hst : (assignEach es X.env).findIdx? (·.1) = none := by rfl) : WG X (.Tuple es k pos) (gTup X.K l.length ts) (gT l) :=
  ⟨pg_tup hc h.pg hn hst, fun F G H μ σ ρ v u P Q S r ⟨ds, e, hl, p⟩ q => by
    subst e
    obtain ⟨a, vs, rfl, h1, h2⟩ := rp_tup r
    exact ⟨a, vs, rfl, h1.sq S.st.sub, by rw [h2.length]; exact hl, h.rg F G H μ σ ρ vs (ds.map U.d) P Q S (rus_d h2) (by rw [List.length_map]; exact hl) p q⟩⟩
/-- o[i] = e, o a list that may change -/
def gIx (wo wi : WX) : WTg := fun u ρ μ P => wo ρ μ fun o μ1 => wi ρ μ1 fun i μ2 => ∃ a us k j, o = .r a ∧ i = .d (.int k) ∧ μ2 a = some (.lst us) ∧ ixN us.length k = some j ∧ P ρ (put μ2 a (.lst (us.set j u)))
theorem w_gix {o i : Expr} {to ti : TE} {wo wi : WX} (ho : WE X o to wo) (hi : WE X i ti wi)
    (ha : ∀ v, assign (.Subscript o i pos) X.env v = (do
      let ov ← holding [v] (eval o X.env)
      let iv ← holding [v, ov] (eval i X.env)
      standAt pos
      holding [v, ov, iv] (setItem ov iv v)
      release [v, ov, iv] []) := by intro _; rfl) : WG X (.Subscript o i pos) (gSub to ti rSetL) (gIx wo wi) :=
  ⟨pg_sub ho.pe hi.pe set_list ha, fun F G H μ σ ρ v u P Q S r p q => ho.re F G H μ σ ρ _ _ S p fun ov ou G1 H1 μ1 e1 S1 r1 p1 => hi.re F G1 H1 μ1 σ ρ _ _ (S.mono e1 S1) p1 fun iv iu G2 H2 μ2 e2 S2 r2 ⟨a, us, k, j, eo, ei, hm, hj, p2⟩ => by
    subst eo ei
    obtain ⟨vs, h1, h2⟩ := S2.lst hm
    refine ⟨a, vs, k, j, r1, rp_int r2, h1, by rw [h2.length]; exact hj, ?_⟩
    have rv : Ru X.K G2 v u := (r.mono e1).mono e2
    have S3 := S2.write (m' := .lst (us.set j u)) hm ⟨vs.set j v, upd_same, h2.set rv j⟩
    exact q σ G2 _ ρ _ (e1.trans e2) ((S.mono (e1.trans e2) S2).mono (Ext.refl _) S3) p2⟩
end

/-! ### statements -/
def wNext : WSt := fun B ρ μ => B.nx ρ μ
def wBreak : WSt := fun B ρ μ => B.bk ρ μ
def wCont : WSt := fun B ρ μ => B.ct ρ μ
def wSeq (t u : WSt) : WSt := fun B ρ μ => t { B with nx := u B } ρ μ
def wDrop (w : WX) : WSt := fun B ρ μ => w ρ μ fun _ μ1 => B.nx ρ μ1
def wRet (w : WX) : WSt := fun B ρ μ => w ρ μ B.rt
def wRetN : WSt := fun B _ μ => B.rt (.d .none) μ
def wIfS (c : WB) (t u : WSt) : WSt := fun B ρ μ => c ρ μ fun b μ1 => if b = true then t B ρ μ1 else u B ρ μ1
def wAsg (w : WX) (g : WTg) : WSt := fun B ρ μ => w ρ μ fun u μ1 => g u ρ μ1 B.nx
def wAug (i : Nat) (f : Int → Int → Int) (w : WX) : WSt := fun B ρ μ => ∃ a, ρ[i]? = some (some (.d (.int a))) ∧ w ρ μ fun u μ1 => ∃ b, u = .d (.int b) ∧ B.nx (ρ.set i (some (.d (.int (f a b))))) μ1
def wWhile (c : WB) (t : WSt) : WSt := fun B ρ μ => ∃ W : Nat → Rho → Mu → Prop, (∃ m, W m ρ μ) ∧ ∀ m ρ μ, W m ρ μ → c ρ μ fun b μ1 =>
  if b = true then t { B with nx := fun ρ' μ' => ∃ m', m' < m ∧ W m' ρ' μ', ct := fun ρ' μ' => ∃ m', m' < m ∧ W m' ρ' μ', bk := B.nx } ρ μ1 else B.nx ρ μ1
def forGo (g : WTg) (t : WSt) (Al : Mu → Prop) : List U → End3 → Rho → Mu → Prop
  | [], B, ρ, μ => Al μ ∧ B.nx ρ μ
  | u :: us, B, ρ, μ => Al μ ∧ g u ρ μ fun ρ1 μ1 => t { B with nx := forGo g t Al us B, ct := forGo g t Al us B, bk := B.nx } ρ1 μ1
def wFor (i : WIt) (g : WTg) (t : WSt) : WSt := fun B ρ μ => i ρ μ fun us Al μ1 => forGo g t Al us B ρ μ1
section
variable {K : Fg} {X : Cx} {pos : Pos} {e : Expr} {te : TE} {we : WX} {st : Stmt} {rest a b : List Stmt} {t u : TS} {wt wu : WSt} {tc : TT} {wc : WB} {c : Expr}
theorem Link.with {F G : Hp} {D : Ends} {B : End3} {N : L2.St → Hp → Prop} {M : Rho → Mu → Prop} (L : Link K F G D B) (h : ∀ σ G' H ρ μ, Ext G G' → Sim K F G' H μ σ ρ → M ρ μ → N σ H) : Link K F G { D with nx := N } { B with nx := M } := ⟨h, L.rt, L.bk, L.ct⟩
theorem rs_next : RS K tNext wNext := fun F G H μ σ ρ D B S L w => L.nx σ G H ρ μ (Ext.refl G) S w
theorem rs_break : RS K tBreak wBreak := fun F G H μ σ ρ D B S L w => L.bk σ G H ρ μ (Ext.refl G) S w
theorem rs_cont : RS K tCont wCont := fun F G H μ σ ρ D B S L w => L.ct σ G H ρ μ (Ext.refl G) S w
theorem rs_seq (h : RS K t wt) (k : RS K u wu) : RS K (tSeq t u) (wSeq wt wu) := fun F G H μ σ ρ D B S L w =>
  h F G H μ σ ρ _ _ S (L.with fun σ1 G1 H1 ρ1 μ1 e1 S1 w1 => k F G1 H1 μ1 σ1 ρ1 D B S1 (L.mono e1) w1) w
theorem rs_drop (h : RE K te we) : RS K (tDrop te) (wDrop we) := fun F G H μ σ ρ D B S L w => h F G H μ σ ρ _ _ S w fun v u G1 H1 μ1 e1 S1 r1 p => L.nx σ G1 H1 ρ μ1 e1 (S.mono e1 S1) p
theorem rs_ret (h : RE K te we) : RS K (tRet te) (wRet we) := fun F G H μ σ ρ D B S L w => h F G H μ σ ρ _ _ S w fun v u G1 H1 μ1 e1 S1 r1 p => L.rt v u G1 H1 μ1 e1 S1 r1 p
theorem rs_retN : RS K tRetN wRetN := fun F G H μ σ ρ D B S L w => L.rt .non (.d .none) G H μ (Ext.refl G) S.st Rp.non w
theorem rs_if (h : RT K tc wc) (k : RS K t wt) (l : RS K u wu) : RS K (tIfS tc t u) (wIfS wc wt wu) := fun F G H μ σ ρ D B S L w => h F G H μ σ ρ _ _ S w fun c G1 H1 μ1 e1 S1 p => by
  cases c with
  | true => exact k F G1 H1 μ1 σ ρ D B (S.mono e1 S1) (L.mono e1) p
  | false => exact l F G1 H1 μ1 σ ρ D B (S.mono e1 S1) (L.mono e1) p
theorem rs_asg {g : TG} {wg : WTg} (h : RE K te we) (k : RG K g wg) : RS K (tAsg te g) (wAsg we wg) := fun F G H μ σ ρ D B S L w => h F G H μ σ ρ _ _ S w fun v u G1 H1 μ1 e1 S1 r1 p =>
  k F G1 H1 μ1 σ ρ v u _ _ (S.mono e1 S1) r1 p fun σ2 G2 H2 ρ2 μ2 e2 S2 p2 => L.nx σ2 G2 H2 ρ2 μ2 (e1.trans e2) S2 p2
theorem rs_aug {i : Nat} {f : Int → Int → Int} (h : RE K te we) : RS K (tAug i te (ipI f)) (wAug i f we) := fun F G H μ σ ρ D B S L ⟨a, ha, w⟩ => by
  obtain ⟨v, hv, rv⟩ := S.sl i _ ha
  refine ⟨v, hv, h F G H μ σ ρ _ _ S w fun y u G1 H1 μ1 e1 S1 r1 ⟨b, eb, p⟩ => ?_⟩
  subst eb
  exact ⟨a, b, rp_int rv, rp_int r1, L.nx _ G1 H1 _ μ1 e1 ((S.mono e1 S1).set (u := .d (.int (f a b))) (Rp.int _)) p⟩
theorem rs_while (h : RT K tc wc) (k : RS K t wt) : RS K (tWhile tc t) (wWhile wc wt) := fun F G H μ σ ρ D B S L ⟨W, ⟨m, w0⟩, turn⟩ =>
  ⟨fun m σ H => ∃ G1 ρ μ, Ext G G1 ∧ Sim K F G1 H μ σ ρ ∧ W m ρ μ, ⟨m, G, ρ, μ, Ext.refl G, S, w0⟩, fun m σ1 H1 ⟨G1, ρ1, μ1, e1, S1, w1⟩ => h F G1 H1 μ1 σ1 ρ1 _ _ S1 (turn m ρ1 μ1 w1) fun c G2 H2 μ2 e2 S2 p => by
    cases c with
    | true =>
      refine ⟨fun σ H => ∃ m', m' < m ∧ ∃ G1 ρ μ, Ext G G1 ∧ Sim K F G1 H μ σ ρ ∧ W m' ρ μ, fun σ' H' z => z, ?_⟩
      refine k F G2 H2 μ2 σ1 ρ1 _ { B with nx := fun ρ' μ' => ∃ m', m' < m ∧ W m' ρ' μ', ct := fun ρ' μ' => ∃ m', m' < m ∧ W m' ρ' μ', bk := B.nx } (S1.mono e2 S2) ⟨?_, ?_, ?_, ?_⟩ p
      · rintro σ3 G3 H3 ρ3 μ3 e3 S3 ⟨m', hm, w3⟩
        exact ⟨m', hm, G3, ρ3, μ3, (e1.trans e2).trans e3, S3, w3⟩
      · exact fun v u G3 H3 μ3 e3 => L.rt v u G3 H3 μ3 ((e1.trans e2).trans e3)
      · exact fun σ3 G3 H3 ρ3 μ3 e3 => L.nx σ3 G3 H3 ρ3 μ3 ((e1.trans e2).trans e3)
      · rintro σ3 G3 H3 ρ3 μ3 e3 S3 ⟨m', hm, w3⟩
        exact ⟨m', hm, G3, ρ3, μ3, (e1.trans e2).trans e3, S3, w3⟩
    | false => exact L.nx σ1 G2 H2 ρ1 μ2 (e1.trans e2) (S1.mono e2 S2) p⟩
theorem rs_for {wi : TI} {wj : WIt} {g : TG} {wg : WTg} (h : RI K wi wj) (hg : RG K g wg) (k : RS K t wt) : RS K (tFor wi g t) (wFor wj wg wt) := fun F G H μ σ ρ D B S L w => h F G H μ σ ρ _ _ S w fun J us Al G0 H0 μ0 e0 S0 jw p => by
  refine ⟨fun i m σ H => m = us.length - i ∧ i ≤ us.length ∧ ∃ G1 ρ μ, Ext G0 G1 ∧ Sim K F G1 H μ σ ρ ∧ forGo wg wt Al (us.drop i) B ρ μ, ⟨us.length, by simp, Nat.zero_le _, G0, ρ, μ0, Ext.refl _, S.mono e0 S0, p⟩, ?_⟩
  rintro i m σ1 H1 ⟨rfl, hi, G1, ρ1, μ1, e1, S1, w1⟩
  by_cases hlt : i < us.length
  · have hd : us.drop i = us[i] :: us.drop (i + 1) := List.drop_eq_getElem_cons hlt
    rw [hd] at w1
    obtain ⟨al, w1⟩ := w1
    obtain ⟨_, hu⟩ := jw F G1 H1 μ1 e1 S1.st al i
    obtain ⟨hgo, hy⟩ := hu us[i] (List.getElem?_eq_getElem hlt)
    refine .inr ⟨hgo, fun σ H => ∃ G1 ρ μ, Ext G0 G1 ∧ Sim K F G1 H μ σ ρ ∧ forGo wg wt Al (us.drop (i + 1)) B ρ μ, fun σ' H' z => ⟨us.length - (i + 1), by omega, rfl, hlt, z⟩, fun x H2 yl => ?_⟩
    obtain ⟨G2, e2, S2, r2⟩ := hy x H2 yl
    refine hg F G2 H2 μ1 σ1 ρ1 x us[i] _ _ (S1.mono e2 S2) r2 w1 fun σ3 G3 H3 ρ3 μ3 e3 S3 w3 => ?_
    have e03 : Ext G0 G3 := (e1.trans e2).trans e3
    refine k F G3 H3 μ3 σ3 ρ3 _ { B with nx := forGo wg wt Al (us.drop (i + 1)) B, ct := forGo wg wt Al (us.drop (i + 1)) B, bk := B.nx } S3 ⟨?_, ?_, ?_, ?_⟩ w3
    · exact fun σ4 G4 H4 ρ4 μ4 e4 S4 w4 => ⟨G4, ρ4, μ4, e03.trans e4, S4, w4⟩
    · exact fun v u G4 H4 μ4 e4 => L.rt v u G4 H4 μ4 ((e0.trans e03).trans e4)
    · exact fun σ4 G4 H4 ρ4 μ4 e4 => L.nx σ4 G4 H4 ρ4 μ4 ((e0.trans e03).trans e4)
    · exact fun σ4 G4 H4 ρ4 μ4 e4 S4 w4 => ⟨G4, ρ4, μ4, e03.trans e4, S4, w4⟩
  · have hd : us.drop i = [] := List.drop_eq_nil_of_le (by omega)
    rw [hd] at w1
    obtain ⟨al, w1⟩ := w1
    obtain ⟨hs, _⟩ := jw F G1 H1 μ1 e1 S1.st al i
    exact .inl ⟨hs (by omega), L.nx σ1 G1 H1 ρ1 μ1 (e0.trans e1) S1 w1⟩
theorem w_snil : WSs X [] tNext wNext := ⟨pss_nil, rs_next⟩
theorem w_scons (h : WS X st t wt) (k : WSs X rest u wu) : WSs X (st :: rest) (tSeq t u) (wSeq wt wu) := ⟨pss_cons h.ps k.ps, rs_seq h.rs k.rs⟩
theorem w_sone (h : WS X st t wt) : WSs X [st] t wt := ⟨pss_one h.ps, h.rs⟩
theorem w_pass : WS X (.Pass pos) tNext wNext := ⟨ps_pass, rs_next⟩
theorem w_break : WS X (.Break pos) tBreak wBreak := ⟨ps_break, rs_break⟩
theorem w_continue : WS X (.Continue pos) tCont wCont := ⟨ps_continue, rs_cont⟩
theorem w_expr (h : WE X e te we) (hs : swapsWith e none pos.line X.env = pure false := by rfl) : WS X (.Expr e pos) (tDrop te) (wDrop we) := ⟨ps_expr h.pe hs, rs_drop h.re⟩
theorem w_ret (h : WE X e te we) : WS X (.Return (some e) pos) (tRet te) (wRet we) := ⟨ps_ret h.pe, rs_ret h.re⟩
theorem w_retN : WS X (.Return none pos) tRetN wRetN := ⟨ps_retN, rs_retN⟩
theorem w_ifS (h : WT X c tc wc) (k : WSs X a t wt) (l : WSs X b u wu) : WS X (.If c a b pos) (tIfS tc t u) (wIfS wc wt wu) := ⟨ps_if h.pt k.ps l.ps, rs_if h.rt k.rs l.rs⟩
theorem w_set (i : Nat) {x : Str} {pos' : Pos} (hN : X.N.Nodup) (h : WE X e te we) (hi : X.N[i]? = some x := by rfl) (hx : Loc X.env.scope x := by first | exact Or.inl rfl | exact Or.inr rfl) (hs : swapsWith e (some (.Name x pos')) pos.line X.env = pure false := by rfl)
    (hf : X.fn x = true ∨ X.env.scope.names.lookup x = some .local := by first | exact .inl rfl | exact .inr rfl) : WS X (.Assign [.Name x pos'] e pos) (tAsg te (gName i)) (wAsg we (gN i)) := ⟨ps_set hN hi hx h.pe hs hf, rs_asg h.re rg_name⟩
theorem w_asg {tg : Expr} {g : TG} {wg : WTg} (h : WE X e te we) (k : WG X tg g wg) (hs : swapsWithSole [tg] e pos.line X.env = pure false := by rfl) (hw : swappedStores [tg] e X.env = pure none := by rfl)
    (h1 : (assignEach [tg] X.env).map (·.2) = [assign tg X.env] := by rfl) : WS X (.Assign [tg] e pos) (tAsg te g) (wAsg we wg) := ⟨ps_asg h.pe k.pg hs hw h1, rs_asg h.re k.rg⟩
theorem w_aug (i : Nat) {x : Str} {op : Operator} {f : Int → Int → Int} {pos' : Pos} (hN : X.N.Nodup) (h : WE X e te we) (ho : PIp X op (ipI f)) (hi : X.N[i]? = some x := by rfl) (hx : Loc X.env.scope x := by first | exact Or.inl rfl | exact Or.inr rfl)
    (hf : X.fn x = true ∨ X.env.scope.names.lookup x = some .local := by first | exact .inl rfl | exact .inr rfl) : WS X (.AugAssign (.Name x pos') op e pos) (tAug i te (ipI f)) (wAug i f we) := ⟨ps_aug hN hi hx h.pe ho hf, rs_aug h.re⟩
theorem w_while (hp : PassesOwn (model X.prog X.w) X.A X.env X.xe) (h : WT X c tc wc) (k : WSs X a t wt) : WS X (.While c a [] pos) (tWhile tc t) (wWhile wc wt) := ⟨ps_while hp h.pt k.ps, rs_while h.rt k.rs⟩
theorem w_for {tg iter : Expr} {wi : TI} {wj : WIt} {g : TG} {wg : WTg} (hp : PassesOwn (model X.prog X.w) X.A X.env X.xe) (hc : X.calm = true) (hi : WI X tg iter wi wj) (hg : WG X tg g wg) (k : WSs X a t wt) (hs : ∀ x, foldedSetIterable iter X.env x = pure x := by intro _; rfl) :
    WS X (.For tg iter a [] pos) (tFor wi g t) (wFor wj wg wt) := ⟨ps_for hp hc hi.pi hg.pg k.ps hs, rs_for hi.ri hg.rg k.rs⟩
end
end L3

namespace L3
open PySem PySem.Spec PyProof.Rows L2

/-! ### comprehensions -/
theorem wipe_get (σ : L2.St) : ∀ (vs : List Nat) (i : Nat), (wipe σ vs)[i]? = if i ∈ vs then σ[i]?.map (fun _ => none) else σ[i]?
  | [], i => by simp [wipe]
  | v :: vs, i => by
    show ((wipe σ vs).set v none)[i]? = _
    by_cases h : v = i
    · subst h
      rw [if_pos List.mem_cons_self]
      by_cases hl : v < σ.length
      · rw [List.getElem?_set_self (by rw [wipe_length]; exact hl), List.getElem?_eq_getElem hl]; rfl
      · rw [List.getElem?_eq_none (by rw [List.length_set, wipe_length]; omega), List.getElem?_eq_none (by omega)]; rfl
    · rw [List.getElem?_set_ne h, wipe_get σ vs i]
      have e : (i ∈ v :: vs) ↔ i ∈ vs := ⟨fun z => (List.mem_cons.mp z).resolve_left fun q => h q.symm, List.mem_cons_of_mem _⟩
      simp only [e]
theorem wipe_ext {σ τ : L2.St} {vs : List Nat} (hl : σ.length = τ.length) (h : ∀ i, i ∉ vs → σ[i]? = τ[i]?) : wipe σ vs = wipe τ vs := by
  apply List.ext_getElem?
  intro i
  rw [wipe_get, wipe_get]
  by_cases hi : i ∈ vs
  · rw [if_pos hi, if_pos hi]
    by_cases hb : i < σ.length
    · rw [List.getElem?_eq_getElem hb, List.getElem?_eq_getElem (by omega : i < τ.length)]; rfl
    · rw [List.getElem?_eq_none (by omega), List.getElem?_eq_none (by omega)]
  · rw [if_neg hi, if_neg hi, h i hi]
theorem wipe_wipe (σ : L2.St) (vs : List Nat) : wipe (wipe σ vs) vs = wipe σ vs := wipe_ext (wipe_length _ _) fun i hi => by rw [wipe_get, if_neg hi]
def wipeR (ρ : Rho) : List Nat → Rho
  | [] => ρ
  | v :: vs => (wipeR ρ vs).set v none
theorem Sim.unset {K : Fg} {F G H : Hp} {μ : Mu} {σ : L2.St} {ρ : Rho} (S : Sim K F G H μ σ ρ) (i : Nat) : Sim K F G H μ (σ.set i none) (ρ.set i none) := by
  refine ⟨S.st, by rw [List.length_set, List.length_set]; exact S.len, fun j u h => ?_⟩
  by_cases q : i = j
  · subst q
    have hl : i < (ρ.set i none).length := (List.getElem?_eq_some_iff.mp h).1
    rw [List.length_set] at hl
    rw [List.getElem?_set_self hl] at h
    cases h
  · rw [List.getElem?_set_ne q] at h ⊢
    exact S.sl j u h
theorem Sim.wipe {K : Fg} {F G H : Hp} {μ : Mu} {σ : L2.St} {ρ : Rho} (S : Sim K F G H μ σ ρ) : ∀ vs : List Nat, Sim K F G H μ (L2.wipe σ vs) (wipeR ρ vs)
  | [] => S
  | v :: vs => (Sim.wipe S vs).unset v
def GOnly (g : TG) (vs : List Nat) : Prop := ∀ v σ H (Q : L2.St → Hp → Prop), g v σ H Q → g v σ H fun σ2 H2 => wipe σ2 vs = wipe σ vs ∧ Q σ2 H2
theorem go_name {i : Nat} {vs : List Nat} (h : i ∈ vs) : GOnly (gName i) vs := fun v σ H Q q => ⟨wipe_ext (List.length_set ..) fun j hj => by
  rw [List.getElem?_set_ne]
  intro e
  subst e
  exact hj h, q⟩
def GsOnly (g : TGs) (vs : List Nat) : Prop := ∀ xs σ H (Q : L2.St → Hp → Prop), g xs σ H Q → g xs σ H fun σ2 H2 => wipe σ2 vs = wipe σ vs ∧ Q σ2 H2
theorem gso_nil {vs : List Nat} : GsOnly gNil vs := fun xs σ H Q ⟨e, q⟩ => ⟨e, rfl, q⟩
def lcGo (g : WTg) (wt : WB) (we : WX) (Al : Mu → Prop) : List U → List U → Rho → Mu → (List U → Mu → Prop) → Prop
  | [], acc, _, μ, P => Al μ ∧ P acc μ
  | u :: us, acc, ρ, μ, P => Al μ ∧ g u ρ μ fun ρ1 μ1 => wt ρ1 μ1 fun b μ2 => if b = true then we ρ1 μ2 fun y μ3 => acc.length < sizeLine ∧ lcGo g wt we Al us (acc ++ [y]) ρ μ3 P else lcGo g wt we Al us acc ρ μ2 P
def wLc (it : WIt) (vs : List Nat) (g : WTg) (wt : WB) (we : WX) : WX := fun ρ μ P => it ρ μ fun us Al μ1 => lcGo g wt we Al us [] (wipeR ρ vs) μ1 fun ys μ2 => ∃ ds : List PyData, ys = ds.map U.d ∧ P (.d (.list ds)) μ2
def wLcM (it : WIt) (vs : List Nat) (g : WTg) (wt : WB) (we : WX) : WX := fun ρ μ P => it ρ μ fun us Al μ1 => lcGo g wt we Al us [] (wipeR ρ vs) μ1 fun ys μ2 => ∀ p, μ2 p = none → P (.r p) (put μ2 p (.lst ys))
def wYes : WB := fun _ μ P => P true μ
structure WTs (X : Cx) (ifs : List Expr) (t : TT) (w : WB) : Prop where
  pt : PTs X ifs t
  rt : RT X.K t w
theorem w_tsnil {X : Cx} : WTs X [] tYes wYes := ⟨pts_nil, fun F G H μ σ ρ P Q S w q => q true G H μ (Ext.refl G) S.st w⟩
theorem w_tsone {X : Cx} {c : Expr} {t : TT} {w : WB} (h : WT X c t w) : WTs X [c] t w := ⟨pts_one h.pt, h.rt⟩
section
variable {K : Fg} {wi : TI} {wj : WIt} {g : TG} {wg : WTg} {tt : TT} {wt : WB} {te : TE} {we : WX} {vs : List Nat}
theorem lc_run (hi : RI K wi wj) (hg : RG K g wg) (go : GOnly g vs) (ht : RT K tt wt) (he : RE K te we) {F G H : Hp} {μ : Mu} {σ : L2.St} {ρ : Rho} {P : List U → Mu → Prop} {Q : VK} (S : Sim K F G H μ σ ρ) (w : wj ρ μ fun us Al μ1 => lcGo wg wt we Al us [] (wipeR ρ vs) μ1 P)
    (q : ∀ (D : Addr) (acc : List V) (ys : List U) (G' H' : Hp) (μ' : Mu), Ext G G' → F D = none → St3 K (upd F D (.lst acc)) G' H' μ' → Rus K G' acc ys → P ys μ' → Q (.ref D) H') : tLc wi g tt te vs σ H Q := by
  refine hi F G H μ σ ρ _ _ S w fun J us Al G0 H0 μ0 e0 S0 jw p D hD => ?_
  have hFD := S0.fnone hD
  refine ⟨fun i m H => m = us.length - i ∧ i ≤ us.length ∧ ∃ G1 μ acc ys, Ext G0 G1 ∧ St3 K (upd F D (.lst acc)) G1 H μ ∧ Rus K G1 acc ys ∧ lcGo wg wt we Al (us.drop i) ys (wipeR ρ vs) μ P, ⟨us.length, by simp, Nat.zero_le _, G0, μ0, [], [], Ext.refl _, S0.newF hD, .nil, p⟩, ?_⟩
  rintro i m H1 ⟨rfl, hi, G1, μ1, acc, ys, e1, S1, r1, w1⟩
  by_cases hlt : i < us.length
  · have hd : us.drop i = us[i] :: us.drop (i + 1) := List.drop_eq_getElem_cons hlt
    rw [hd] at w1
    obtain ⟨al, w1⟩ := w1
    obtain ⟨_, hu⟩ := jw _ G1 H1 μ1 e1 S1 al i
    obtain ⟨hgo, hy⟩ := hu us[i] (List.getElem?_eq_getElem hlt)
    refine .inr ⟨hgo, fun H => ∃ G1 μ acc ys, Ext G0 G1 ∧ St3 K (upd F D (.lst acc)) G1 H μ ∧ Rus K G1 acc ys ∧ lcGo wg wt we Al (us.drop (i + 1)) ys (wipeR ρ vs) μ P, fun H' z => ⟨us.length - (i + 1), by omega, rfl, hlt, z⟩, fun x H2 yl => ?_⟩
    obtain ⟨G2, e2, S2, r2⟩ := hy x H2 yl
    have Sw : Sim K (upd F D (.lst acc)) G2 H2 μ1 (wipe σ vs) (wipeR ρ vs) := ⟨S2, (S.wipe vs).len, fun j u h => by
      obtain ⟨v, h1, h2⟩ := (S.wipe vs).sl j u h
      exact ⟨v, h1, h2.mono ((e0.trans e1).trans e2)⟩⟩
    have key := go x (wipe σ vs) H2 _ (hg _ G2 H2 μ1 (wipe σ vs) (wipeR ρ vs) x us[i] _ (fun σ3 H3 => tt σ3 H3 fun b H3 =>
      if b = true then te σ3 H3 fun y H4 => ∃ acc, H4 D = some (.lst acc) ∧ acc.length < sizeLine ∧ (∃ G1 μ acc' ys, Ext G0 G1 ∧ St3 K (upd F D (.lst acc')) G1 (upd H4 D (.lst (acc ++ [y]))) μ ∧ Rus K G1 acc' ys ∧ lcGo wg wt we Al (us.drop (i + 1)) ys (wipeR ρ vs) μ P)
      else (∃ G1 μ acc ys, Ext G0 G1 ∧ St3 K (upd F D (.lst acc)) G1 H3 μ ∧ Rus K G1 acc ys ∧ lcGo wg wt we Al (us.drop (i + 1)) ys (wipeR ρ vs) μ P)) Sw r2 w1 fun σ3 G3 H3 ρ3 μ3 e3 S3 w3 => ?_)
    · rw [wipe_wipe] at key
      exact key
    · refine ht _ G3 H3 μ3 σ3 ρ3 _ _ S3 w3 fun b G4 H4 μ4 e4 S4 w4 => ?_
      cases b with
      | true =>
        show te σ3 H4 _
        refine he _ G4 H4 μ4 σ3 ρ3 _ _ (S3.mono e4 S4) w4 fun y u G5 H5 μ5 e5 S5 r5 ⟨hz, w5⟩ => ?_
        obtain ⟨hD5, _, _⟩ := S5.fr D _ upd_same
        have e15 : Ext G1 G5 := ((e2.trans e3).trans e4).trans e5
        exact ⟨acc, hD5, by rw [r1.length]; exact hz, G5, μ5, acc ++ [y], ys ++ [u], e1.trans e15, S5.setF, (r1.mono e15).append (.cons r5 .nil), w5⟩
      | false => exact ⟨G4, μ4, acc, ys, ((e1.trans e2).trans e3).trans e4, S4, r1.mono ((e2.trans e3).trans e4), w4⟩
  · have hd : us.drop i = [] := List.drop_eq_nil_of_le (by omega)
    rw [hd] at w1
    obtain ⟨al, w1⟩ := w1
    obtain ⟨hs, _⟩ := jw _ G1 H1 μ1 e1 S1 al i
    exact .inl ⟨hs (by omega), q D acc ys G1 H1 μ1 (e0.trans e1) hFD S1 r1 w1⟩
theorem re_lc (hi : RI K wi wj) (hg : RG K g wg) (go : GOnly g vs) (ht : RT K tt wt) (he : RE K te we) : RE K (tLc wi g tt te vs) (wLc wj vs wg wt we) := fun F G H μ σ ρ P Q S w q =>
  lc_run hi hg go ht he S w fun D acc ys G1 H1 μ1 e1 hD S1 r1 ⟨ds, e, p⟩ => by
    subst e
    obtain ⟨e2, S2⟩ := S1.unF hD
    exact q (.ref D) (.d (.list ds)) _ _ μ1 (e1.trans e2) S2 (Rp.lst (SqL.of upd_same) ((d_rus r1).mono e2)) p
theorem re_lcM (hi : RI K wi wj) (hg : RG K g wg) (go : GOnly g vs) (ht : RT K tt wt) (he : RE K te we) : RE K (tLc wi g tt te vs) (wLcM wj vs wg wt we) := fun F G H μ σ ρ P Q S w q =>
  lc_run hi hg go ht he S w fun D acc ys G1 H1 μ1 e1 hD S1 r1 p => by
    obtain ⟨h1, h2, h3⟩ := S1.fr D _ upd_same
    exact q (.ref D) (.r D) G1 H1 _ e1 (S1.unFM (m := .lst ys) hD ⟨acc, h1, r1⟩) rfl (p D h3)
end
section
variable {X : Cx} {elt tg iter : Expr} {ifs : List Expr} {scope : Scope} {own : List (Str × Nat)} {pos : Pos} {wi : TI} {wj : WIt} {g : TG} {wg : WTg} {tt : TT} {wt : WB} {te : TE} {we : WX}
theorem w_lc (hc : X.calm = true) (hN : X.N.Nodup) (hi : WI X tg iter wi wj) (ok : BlkOk X.N X.env.scope scope own) (go : GOnly g (own.map (·.2)))
    (hg : ∀ (s : Shared) (H : Hp) (C : Addr) (cl : List (Str × Addr)) (fp : List Addr), WG (X.blk s H scope (compEnvC scope cl C X.env) fp) tg g wg) (ht : ∀ (s : Shared) (H : Hp) (C : Addr) (cl : List (Str × Addr)) (fp : List Addr), WTs (X.blk s H scope (compEnvC scope cl C X.env) fp) ifs tt wt)
    (he : ∀ (s : Shared) (H : Hp) (C : Addr) (cl : List (Str × Addr)) (fp : List Addr), WE (X.blk s H scope (compEnvC scope cl C X.env) fp) elt te we) (hs : ∀ x, foldedSetIterable iter X.env x = pure x := by intro _; rfl) :
    WE X (.ListComp elt [⟨tg, iter, ifs, 0⟩] scope pos) (tLc wi g tt te (own.map (·.2))) (wLc wj (own.map (·.2)) wg wt we) :=
  ⟨pe_lc hc hN hi.pi ok (fun s H C cl fp => (hg s H C cl fp).pg) (fun s H C cl fp => (ht s H C cl fp).pt) (fun s H C cl fp => (he s H C cl fp).pe) hs, re_lc hi.ri (hg X.s_0 X.H_0 0 [] []).rg go (ht X.s_0 X.H_0 0 [] []).rt (he X.s_0 X.H_0 0 [] []).re⟩
theorem w_lcM (hc : X.calm = true) (hN : X.N.Nodup) (hi : WI X tg iter wi wj) (ok : BlkOk X.N X.env.scope scope own) (go : GOnly g (own.map (·.2)))
    (hg : ∀ (s : Shared) (H : Hp) (C : Addr) (cl : List (Str × Addr)) (fp : List Addr), WG (X.blk s H scope (compEnvC scope cl C X.env) fp) tg g wg) (ht : ∀ (s : Shared) (H : Hp) (C : Addr) (cl : List (Str × Addr)) (fp : List Addr), WTs (X.blk s H scope (compEnvC scope cl C X.env) fp) ifs tt wt)
    (he : ∀ (s : Shared) (H : Hp) (C : Addr) (cl : List (Str × Addr)) (fp : List Addr), WE (X.blk s H scope (compEnvC scope cl C X.env) fp) elt te we) (hs : ∀ x, foldedSetIterable iter X.env x = pure x := by intro _; rfl) :
    WE X (.ListComp elt [⟨tg, iter, ifs, 0⟩] scope pos) (tLc wi g tt te (own.map (·.2))) (wLcM wj (own.map (·.2)) wg wt we) :=
  ⟨pe_lc hc hN hi.pi ok (fun s H C cl fp => (hg s H C cl fp).pg) (fun s H C cl fp => (ht s H C cl fp).pt) (fun s H C cl fp => (he s H C cl fp).pe) hs, re_lcM hi.ri (hg X.s_0 X.H_0 0 [] []).rg go (ht X.s_0 X.H_0 0 [] []).rt (he X.s_0 X.H_0 0 [] []).re⟩
/-- name = [..] on one line -/
theorem w_setLc (i : Nat) {y : Str} {py spos : Pos} (hc : X.calm = true) (hN : X.N.Nodup) (hsw : swapsWith (.ListComp elt [⟨tg, iter, ifs, 0⟩] scope pos) (some (.Name y py)) spos.line X.env = pure true) (hi : WI X tg iter wi wj) (ok : BlkOk X.N X.env.scope scope own) (go : GOnly g (own.map (·.2)))
    (hg : ∀ (s : Shared) (H : Hp) (C : Addr) (cl : List (Str × Addr)) (fp : List Addr), WG (X.blk s H scope (compEnvC scope cl C X.env) fp) tg g wg) (ht : ∀ (s : Shared) (H : Hp) (C : Addr) (cl : List (Str × Addr)) (fp : List Addr), WTs (X.blk s H scope (compEnvC scope cl C X.env) fp) ifs tt wt)
    (he : ∀ (s : Shared) (H : Hp) (C : Addr) (cl : List (Str × Addr)) (fp : List Addr), WE (X.blk s H scope (compEnvC scope cl C X.env) fp) elt te we) (hy : X.N[i]? = some y := by rfl) (hyl : X.env.scope.names.lookup y = some .local := by rfl) (hs : ∀ x, foldedSetIterable iter X.env x = pure x := by intro _; rfl) :
    WS X (.Assign [.Name y py] (.ListComp elt [⟨tg, iter, ifs, 0⟩] scope pos) spos) (tAsg (tLc wi g tt te (own.map (·.2))) (gName i)) (wAsg (wLc wj (own.map (·.2)) wg wt we) (gN i)) :=
  ⟨ps_setLc hc hN hy hyl hsw hi.pi ok (fun s H C cl fp => (hg s H C cl fp).pg) (fun s H C cl fp => (ht s H C cl fp).pt) (fun s H C cl fp => (he s H C cl fp).pe) hs, rs_asg (re_lc hi.ri (hg X.s_0 X.H_0 0 [] []).rg go (ht X.s_0 X.H_0 0 [] []).rt (he X.s_0 X.H_0 0 [] []).re) rg_name⟩
theorem w_setLcM (i : Nat) {y : Str} {py spos : Pos} (hc : X.calm = true) (hN : X.N.Nodup) (hsw : swapsWith (.ListComp elt [⟨tg, iter, ifs, 0⟩] scope pos) (some (.Name y py)) spos.line X.env = pure true) (hi : WI X tg iter wi wj) (ok : BlkOk X.N X.env.scope scope own) (go : GOnly g (own.map (·.2)))
    (hg : ∀ (s : Shared) (H : Hp) (C : Addr) (cl : List (Str × Addr)) (fp : List Addr), WG (X.blk s H scope (compEnvC scope cl C X.env) fp) tg g wg) (ht : ∀ (s : Shared) (H : Hp) (C : Addr) (cl : List (Str × Addr)) (fp : List Addr), WTs (X.blk s H scope (compEnvC scope cl C X.env) fp) ifs tt wt)
    (he : ∀ (s : Shared) (H : Hp) (C : Addr) (cl : List (Str × Addr)) (fp : List Addr), WE (X.blk s H scope (compEnvC scope cl C X.env) fp) elt te we) (hy : X.N[i]? = some y := by rfl) (hyl : X.env.scope.names.lookup y = some .local := by rfl) (hs : ∀ x, foldedSetIterable iter X.env x = pure x := by intro _; rfl) :
    WS X (.Assign [.Name y py] (.ListComp elt [⟨tg, iter, ifs, 0⟩] scope pos) spos) (tAsg (tLc wi g tt te (own.map (·.2))) (gName i)) (wAsg (wLcM wj (own.map (·.2)) wg wt we) (gN i)) :=
  ⟨ps_setLc hc hN hy hyl hsw hi.pi ok (fun s H C cl fp => (hg s H C cl fp).pg) (fun s H C cl fp => (ht s H C cl fp).pt) (fun s H C cl fp => (he s H C cl fp).pe) hs, rs_asg (re_lcM hi.ri (hg X.s_0 X.H_0 0 [] []).rg go (ht X.s_0 X.H_0 0 [] []).rt (he X.s_0 X.H_0 0 [] []).re) rg_name⟩
end

/-! ### changes of words alone -/
/-- the things at a frozen, dropped, or told otherwise -/
def frzR (a : Addr) (ds : List PyData) (ρ : Rho) : Rho := ρ.map fun o => match o with
  | some (.r b) => if b = a then some (.d (.list ds)) else some (.r b)
  | o => o
theorem Sim.freeze {K : Fg} {F G H : Hp} {μ : Mu} {σ : L2.St} {ρ : Rho} {a : Addr} {ds : List PyData} (S : Sim K F G H μ σ ρ) (h : μ a = some (.lst (ds.map U.d))) : ∃ G', Ext G G' ∧ Sim K F G' H (del μ a) σ (frzR a ds ρ) := by
  obtain ⟨vs, e, S', r⟩ := S.st.freeze h
  refine ⟨_, e, S', by unfold frzR; rw [List.length_map]; exact S.len, fun i u hu => ?_⟩
  unfold frzR at hu
  rw [List.getElem?_map] at hu
  cases q : ρ[i]? with
  | none => rw [q] at hu; cases hu
  | some o =>
    rw [q] at hu
    cases o with
    | none => cases hu
    | some w =>
      obtain ⟨v, h1, h2⟩ := S.sl i w q
      cases w with
      | d x =>
        cases hu
        exact ⟨v, h1, Ru.mono e h2⟩
      | r b =>
        have hu' : (if b = a then some (U.d (.list ds)) else some (U.r b)) = some u := Option.some.inj hu
        by_cases hb : b = a
        · subst hb
          rw [if_pos rfl] at hu'
          cases hu'
          exact ⟨v, h1, by rw [show v = .ref b from h2]; exact r⟩
        · rw [if_neg hb] at hu'
          cases hu'
          exact ⟨v, h1, h2⟩
/-- behind a freezing of the list in slot i -/
def wFrz (i : Nat) (w : WSt) : WSt := fun B ρ μ => ∃ a ds, ρ[i]? = some (some (.r a)) ∧ μ a = some (.lst (ds.map U.d)) ∧ w B (frzR a ds ρ) (del μ a)
theorem rs_frz {K : Fg} {t : TS} {w : WSt} (i : Nat) (h : RS K t w) : RS K t (wFrz i w) := fun F G H μ σ ρ D B S L ⟨a, ds, h1, h2, w⟩ => by
  obtain ⟨G', e, S'⟩ := S.freeze h2
  exact h F G' H _ σ _ D B S' (L.mono e) w
theorem w_frz {X : Cx} {s : List Stmt} {t : TS} {w : WSt} (i : Nat) (h : WSs X s t w) : WSs X s t (wFrz i w) := ⟨h.ps, rs_frz i h.rs⟩
/-- what a def hands back, told otherwise: a list frozen, a hand made, things forgotten -/
inductive Gv (μ0 : Mu) : U → Mu → U → Mu → Prop
  | rfl {u : U} {μ : Mu} : Gv μ0 u μ u μ
  | frz {a : Addr} {ds : List PyData} {μ : Mu} : μ a = some (.lst (ds.map U.d)) → Gv μ0 (.r a) μ (.d (.list ds)) (del μ a)
  | drop {u w : U} {a : Addr} {μ μ' : Mu} : Gv μ0 u (del μ a) w μ' → Gv μ0 u μ w μ'
  | hand {u w : U} {a : Addr} {ns : List Int} {i r t : Int} {μ μ' : Mu} : μ a = some (.lst [.d (.list (ns.map .int)), .d (.int i), .d (.int r), .d (.int t)]) → ns.length ≤ 63 → (∀ x ∈ ns, 0 ≤ x) → 0 ≤ i → i ≤ 63 → 0 ≤ r → Gv μ0 u (put μ a .hand) w μ' → Gv μ0 u μ w μ'
theorem rus_cons {K : Fg} {G : Hp} {vs : List V} {u : U} {us : List U} (h : Rus K G vs (u :: us)) : ∃ v ws, vs = v :: ws ∧ Ru K G v u ∧ Rus K G ws us := by
  cases h with
  | cons h t => exact ⟨_, _, rfl, h, t⟩
theorem Gv.go {K : Fg} {F : Hp} {μ0 : Mu} {u w : U} {μ μ' : Mu} (g : Gv μ0 u μ w μ') : ∀ {G H : Hp} {v : V}, St3 K F G H μ → Ru K G v u → ∃ G', Ext G G' ∧ St3 K F G' H μ' ∧ Ru K G' v w := by
  induction g with
  | rfl => exact fun S r => ⟨_, Ext.refl _, S, r⟩
  | frz h =>
    intro G H v S r
    obtain ⟨vs, e, S', r'⟩ := S.freeze h
    exact ⟨_, e, S', by rw [show v = .ref _ from r]; exact r'⟩
  | drop _ ih => exact fun S r => ih S.drop r
  | hand h l1 l2 l3 l4 l5 _ ih =>
    intro G H v S r
    refine ih (S.reword h ?_) r
    obtain ⟨vs, h1, h2⟩ := S.lst h
    obtain ⟨v1, w1, rfl, r1, h2⟩ := rus_cons h2
    obtain ⟨v2, w2, rfl, r2, h2⟩ := rus_cons h2
    obtain ⟨v3, w3, rfl, r3, h2⟩ := rus_cons h2
    obtain ⟨v4, w4, rfl, r4, h2⟩ := rus_cons h2
    cases h2
    obtain ⟨c, xs, rfl, g1, g2⟩ := rp_lst r1
    rw [rps_ints g2] at g1
    rw [rp_int r2, rp_int r3, rp_int r4] at h1
    exact ⟨c, _, _, _, _, h1, g1, l1, l2, l3, l4, l5⟩
/-- the hand opened -/
theorem St3.openHand {K : Fg} {F G H : Hp} {μ : Mu} {a : Addr} (S : St3 K F G H μ) (h : μ a = some .hand) : ∃ (ns : List Int) (i r t : Int), ns.length ≤ 63 ∧ (∀ x ∈ ns, 0 ≤ x) ∧ 0 ≤ i ∧ i ≤ 63 ∧ 0 ≤ r ∧
    St3 K F G H (put μ a (.lst [.d (.list (ns.map .int)), .d (.int i), .d (.int r), .d (.int t)])) := by
  obtain ⟨hg, c, i, r, t, ns, h1, h2, l1, l2, l3, l4, l5⟩ := S.mu _ _ h
  exact ⟨ns, i, r, t, l1, l2, l3, l4, l5, S.reword h ⟨_, h1, .cons (Rp.lst h2 (rps_ints' ns)) (.cons (Rp.int i) (.cons (Rp.int r) (.cons (Rp.int t) .nil)))⟩⟩

/-! ### a def by its body -/
def start3 (N : List Str) (us : List U) : Rho := us.map some ++ List.replicate (N.length - us.length) none
theorem start_sim {K : Fg} {F G H : Hp} {μ : Mu} {N : List Str} {vs : List V} {us : List U} (S : St3 K F G H μ) (r : Rus K G vs us) : Sim K F G H μ (L2.start N vs) (start3 N us) := by
  have hl := r.length
  refine ⟨S, by unfold L2.start start3; rw [List.length_append, List.length_append, List.length_map, List.length_map, List.length_replicate, List.length_replicate, hl], fun i u h => ?_⟩
  unfold start3 at h
  unfold L2.start
  by_cases hi : i < us.length
  · rw [List.getElem?_append_left (by rw [List.length_map]; exact hi), List.getElem?_map] at h
    rw [List.getElem?_append_left (by rw [List.length_map]; omega), List.getElem?_map]
    cases q : us[i]? with
    | none => rw [q] at h; cases h
    | some w =>
      rw [q] at h
      cases h
      obtain ⟨v, h1, h2⟩ := r.getU q
      exact ⟨v, by rw [h1]; rfl, h2⟩
  · rw [List.getElem?_append_right (by rw [List.length_map]; omega), List.getElem?_replicate] at h
    split at h <;> cases h
section
variable {P : Program} {w : World} {K : Fg} {mg : Str → Option Value} {base : Heap}
/-- THE RULE for a def: its body's worth; what it hands back may be told otherwise -/
theorem fn3 {x : Str} {params : Arguments} {body : List Stmt} {scope : Scope} {f : Addr} {fd : FuncData} {N ps : List Str} {k : Nat} {s : WF} (Fd : FunD K x x params body scope [] [] f fd) (hmg : mg x = some (.ref f)) (hbind : Binds K fd ps []) (S : FnScope N ps scope)
    (len : ∀ us μ Q, s us μ Q → us.length = ps.length)
    (hbody : ∀ (cdv : Value) (A : Around) (outer : List Env) (sh : Shared) (H : Hp) (E : XK), Room k (A.deeper (envOfC x scope sh.heap.objs.size f cdv)) →
      ∃ t wt, WSs (cxOf CX0 P w K mg base N x scope f cdv A outer sh H E).nox body t wt ∧ ∀ us μ Q, s us μ Q → wt { nx := fun _ μ' => ∃ u2 μ2, Gv μ (.d .none) μ' u2 μ2 ∧ Q u2 μ2, rt := fun u μ' => ∃ u2 μ2, Gv μ u μ' u2 μ2 ∧ Q u2 μ2 } (start3 N us) μ) :
    C8.Cal P w K mg base (k + 1) x (sp3 K s) [] := by
  refine ⟨f, fd, ps, [], FunD.ok Fd S (fun vs H Q E h => ?_) (fun cdv A outer sh H vs Q E hr h => ?_), hmg, Fd.kp, hbind, .nil⟩
  · obtain ⟨us, F, G, μ, P, S, r, hs, q⟩ := h
    rw [r.length]
    exact len _ _ _ hs
  · obtain ⟨us, F, G, μ, Pz, S3, r, hs, q⟩ := h
    obtain ⟨t, wt, hw, hq⟩ := hbody cdv A outer sh H E hr
    refine ⟨t, PSs.nox hw.ps, hw.rs F G H μ (L2.start N vs) (start3 N us) _ _ (start_sim S3 r) ⟨?_, ?_, ?_, ?_⟩ (hq us μ Pz hs)⟩
    · rintro σ' G' H' ρ' μ' e S' ⟨u2, μ2, g, p⟩
      obtain ⟨G2, e2, S2, r2⟩ := g.go (v := .non) S'.st Rp.non
      exact q .non u2 G2 H' μ2 (e.trans e2) S2 r2 p
    · rintro v u G' H' μ' e S' r' ⟨u2, μ2, g, p⟩
      obtain ⟨G2, e2, S2, r2⟩ := g.go S' r'
      exact q v u2 G2 H' μ2 (e.trans e2) S2 r2 p
    · exact fun _ _ _ _ _ _ _ h => h.elim
    · exact fun _ _ _ _ _ _ _ h => h.elim
/-- a weaker promise -/
theorem cal_imp {k : Nat} {x : Str} {s s' : WF} (c : C8.Cal P w K mg base k x (sp3 K s) []) (h : ∀ us μ Q, s' us μ Q → s us μ Q) : C8.Cal P w K mg base k x (sp3 K s') [] := by
  obtain ⟨f, fd, ps, ds, F, hm, kp, b, d⟩ := c.ex
  refine ⟨f, fd, ps, ds, F.imp (fun vs H Q E ⟨us, F, G, μ, P, S, r, hs, q⟩ => ⟨us, F, G, μ, P, S, r, h _ _ _ hs, q⟩), hm, kp, b, d⟩
theorem cal_mono {j k : Nat} {x : Str} {s : Sp} (c : C8.Cal P w K mg base j x s []) (h : j ≤ k) : C8.Cal P w K mg base k x s [] := by
  obtain ⟨f, fd, ps, ds, F, hm, kp, b, d⟩ := c.ex
  exact ⟨f, fd, ps, ds, F.mono h, hm, kp, b, d⟩
end
end L3

/-! the least of two texts, the least of a list of texts with a default -/
namespace L3M
open PySem PySem.Spec PyProof.Rows L2
def ltS (x y : Str) : Bool := decide (x.cps.toList < y.cps.toList)
def leastS (z : Str) (zs : List Str) : Str := zs.foldl (fun m y => if ltS y m = true then y else m) z
theorem CmpOf_strs {prog : Program} {w : World} {A : Around} {P : Nat → Value → Prop} (val : Nat → Str) (hval : ∀ i v, P i v → ∃ t, v = .str (val i) t) :
    CmpOf prog w A .Lt P (fun i j => ltS (val i) (val j)) := fun i j vi vj s Q E hi hj h => by
  obtain ⟨t, rfl⟩ := hval i vi hi
  obtain ⟨u, rfl⟩ := hval j vj hj
  exact PyProof.Rows.lt_str (show Q (.bool (decide ((val i).cps.toList < (val j).cps.toList))) s from h)
section
variable {prog : Program} {w : World} {A : Around} {R : Result → Shared → Prop} {I : Addr} {fp wr : List Addr} {n : Nat} {P : Nat → Value → Prop} {St : Nat → Heap → Prop} {kw : List (Str × Value)}
theorem min_loop (W : Walks prog w A.in1 I fp wr n P St) (bt : Nat → Nat → Bool) (hcmp : CmpOf prog w A.in1 .Lt P bt) (S : Addr) (hSf : S ∉ fp) :
    ∀ (k j : Nat) (s : Shared) (vb : Value) (c : Nat), n - (j + 1) = k → j + 1 ≤ n → St (j + 1) s.heap → P (argBest bt j) vb →
    s.heap.get? S = some { cls := .type "list", dict := none, data := .seq #[vb, vb] c, slots := #[] } →
    (∀ v h' tk, P (argBest bt (n - 1)) v → (∀ b o, b ∉ wr → b ≠ S → s.heap.get? b = some o → h'.get? b = some o) → R (.ok (.ret v)) { s with heap := h', toks := tk }) →
    codeAny (model prog w) A (.builtin "min.loop" ⟨[.ref I, .none, .ref S], kw⟩) R s := by
  have hSw : S ∉ wr := fun h => hSf (W.sub _ h)
  have hname : (toString "min" ++ toString ".loop" : String) = "min.loop" := by decide
  intro k
  induction k with
  | zero =>
    intro j s vb c hk hj hst hPb hS hR
    have hin : j + 1 = n := by omega
    refine codeAny_builtin PySem.F.entry_min_loop ?_
    rw [Around.under_plainId PySem.F.plain_min_loop _]
    show wpAny _ A.in1 (seqItems? (.ref S) >>= _) _ _ s
    refine wpAny_bind (wpAny_seqItems hS rfl ?_)
    show wpAny _ A.in1 (tryCatch (pyNext (.ref I)) _ >>= _) _ _ s
    refine wpAny_bind (wpAny_tryCatch (W.done s _ _ (hin ▸ hst) fun h' tk hk' => ?_))
    have hS' := hk' S _ hSw hS
    show wpAny _ A.in1 (updateSeq S (fun _ => #[]) >>= _) _ _ _
    refine wpAny_bind ?_
    refine wpAny_updateSeq hS' rfl (wpAny_bind (wpAny_letGo (wpAny_pure ?_)))
    refine hR vb _ tk (by rw [← hin]; exact hPb) fun b o hbw hbS e => (Heap.get?_update_other _ _ (Ne.symm hbS)).trans (hk' b o hbw e)
  | succ k ih =>
    intro j s vb c hk hj hst hPb hS hR
    have hlt : j + 1 < n := by omega
    refine codeAny_builtin PySem.F.entry_min_loop ?_
    rw [Around.under_plainId PySem.F.plain_min_loop _]
    show wpAny _ A.in1 (seqItems? (.ref S) >>= _) _ _ s
    refine wpAny_bind (wpAny_seqItems hS rfl ?_)
    show wpAny _ A.in1 (tryCatch (pyNext (.ref I)) _ >>= _) _ _ s
    refine wpAny_bind (wpAny_tryCatch (W.item (j + 1) s _ _ hlt hst fun v h' tk hP hst' hk' => ?_))
    have hS' := hk' S _ hSw hS
    show wpAny _ A.in1 (tryCatch (holding [v, v] (richCompare .Lt v vb >>= _)) _ >>= _) _ _ _
    refine wpAny_bind (wpAny_tryCatch (wpAny_holding (wpAny_bind (hcmp (j + 1) (argBest bt j) v vb _ _ _ hP hPb ?_))))
    refine wpAny_bind (wpAny_holding (wpAny_truthy_bool ?_))
    refine wpAny_bind (wpAny_letGo (wpAny_pure ?_))
    cases hb : bt (j + 1) (argBest bt j) with
    | true =>
      simp only [if_true]
      refine wpAny_bind ?_
      refine wpAny_updateSeq hS' rfl (wpAny_bind (wpAny_letGo ?_))
      rw [hname]
      refine wpAny_pure ⟨plainId_quiet PySem.F.plain_min_loop _, ih (j + 1) _ v _ (by omega) hlt (W.frame _ _ _ hst' fun b hbf o e => ?_) (by simp only [argBest, hb, if_true]; exact hP) (Heap.get?_update_self _ hS' rfl)
        fun v' h'' tk'' hP' hk'' => ?_⟩
      · exact (Heap.get?_update_other _ _ (fun h : S = b => hSf (by rw [h]; exact hbf))).trans e
      · exact hR v' h'' tk'' hP' fun b o hbw hbS e => hk'' b o hbw hbS ((Heap.get?_update_other _ _ (Ne.symm hbS)).trans (hk' b o hbw e))
    | false =>
      simp only [Bool.false_eq_true, if_false]
      refine wpAny_bind (wpAny_letGo ?_)
      rw [hname]
      refine wpAny_pure ⟨plainId_quiet PySem.F.plain_min_loop _, ih (j + 1) _ vb c (by omega) hlt hst' (by simp only [argBest, hb, Bool.false_eq_true, if_false]; exact hPb) hS' fun v' h'' tk'' hP' hk'' => ?_⟩
      exact hR v' h'' tk'' hP' fun b o hbw hbS e => hk'' b o hbw hbS (hk' b o hbw e)
theorem min_loop_first (W : Walks prog w A.in1 I fp wr n P St) (bt : Nat → Nat → Bool) (hcmp : CmpOf prog w A.in1 .Lt P bt) (S : Addr) (hSf : S ∉ fp) (hn : 0 < n) {s : Shared} {c : Nat} (hst : St 0 s.heap)
    (hS : s.heap.get? S = some { cls := .type "list", dict := none, data := .seq #[] c, slots := #[] })
    (hR : ∀ v h' tk, P (argBest bt (n - 1)) v → (∀ b o, b ∉ wr → b ≠ S → s.heap.get? b = some o → h'.get? b = some o) → R (.ok (.ret v)) { s with heap := h', toks := tk }) :
    codeAny (model prog w) A (.builtin "min.loop" ⟨[.ref I, .none, .ref S], kw⟩) R s := by
  have hSw : S ∉ wr := fun h => hSf (W.sub _ h)
  have hname : (toString "min" ++ toString ".loop" : String) = "min.loop" := by decide
  refine codeAny_builtin PySem.F.entry_min_loop ?_
  rw [Around.under_plainId PySem.F.plain_min_loop _]
  show wpAny _ A.in1 (seqItems? (.ref S) >>= _) _ _ s
  refine wpAny_bind (wpAny_seqItems hS rfl ?_)
  show wpAny _ A.in1 (tryCatch (pyNext (.ref I)) _ >>= _) _ _ s
  refine wpAny_bind (wpAny_tryCatch (W.item 0 s _ _ hn hst fun v h' tk hP hst' hk' => ?_))
  have hS' := hk' S _ hSw hS
  show wpAny _ A.in1 (updateSeq S (fun _ => #[v, v]) >>= _) _ _ _
  refine wpAny_bind ?_
  refine wpAny_updateSeq hS' rfl ?_
  rw [hname]
  refine wpAny_pure ⟨plainId_quiet PySem.F.plain_min_loop _, min_loop W bt hcmp S hSf _ 0 _ v _ rfl hn (W.frame _ _ _ hst' fun b hbf o e => ?_) hP (Heap.get?_update_self _ hS' rfl) fun v' h'' tk'' hP' hk'' => ?_⟩
  · exact (Heap.get?_update_other _ _ (fun h : S = b => hSf (by rw [h]; exact hbf))).trans e
  · exact hR v' h'' tk'' hP' fun b o hbw hbS e => hk'' b o hbw hbS ((Heap.get?_update_other _ _ (Ne.symm hbS)).trans (hk' b o hbw e))
/-- nothing to walk: the default -/
theorem min_loop_none (W : Walks prog w A.in1 I fp wr n P St) (S : Addr) (hSf : S ∉ fp) (hn : n = 0) {s : Shared} {c : Nat} {d : Value} {x : Str} (hst : St 0 s.heap)
    (hS : s.heap.get? S = some { cls := .type "list", dict := none, data := .seq #[] c, slots := #[] })
    (hR : ∀ h' tk, (∀ b o, b ∉ wr → b ≠ S → s.heap.get? b = some o → h'.get? b = some o) → R (.ok (.ret d)) { s with heap := h', toks := tk }) :
    codeAny (model prog w) A (.builtin "min.loop" ⟨[.ref I, .none, .ref S], [(x, d)]⟩) R s := by
  subst hn
  refine codeAny_builtin PySem.F.entry_min_loop ?_
  rw [Around.under_plainId PySem.F.plain_min_loop _]
  show wpAny _ A.in1 (seqItems? (.ref S) >>= _) _ _ s
  refine wpAny_bind (wpAny_seqItems hS rfl ?_)
  show wpAny _ A.in1 (tryCatch (pyNext (.ref I)) _ >>= _) _ _ s
  refine wpAny_bind (wpAny_tryCatch (W.done s _ _ hst fun h' tk hk' => ?_))
  refine wpAny_bind (wpAny_rule (wpAny_pure ?_))
  exact hR h' tk fun b o hbw _ e => hk' b o hbw e
end
def strItems (xs : Array (Str × Tok)) : Array Value := xs.map fun p => .str p.1 p.2
def strAt (xs : Array (Str × Tok)) (i : Nat) : Str := (xs[i]?.map (·.1)).getD ⟨#[]⟩
theorem strItems_at {xs : Array (Str × Tok)} {i : Nat} {v : Value} (h : (strItems xs)[i]? = some v) : ∃ t, v = .str (strAt xs i) t := by
  simp only [strItems, Array.getElem?_map, Option.map_eq_some_iff] at h
  obtain ⟨p, hp, rfl⟩ := h
  exact ⟨p.2, by simp [strAt, hp]⟩
/-- the best place's text is the least by the fold -/
theorem best_least (f : Nat → Str) : ∀ k, f (argBest (fun i j => ltS (f i) (f j)) k) = leastS (f 0) ((List.range k).map fun i => f (i + 1))
  | 0 => rfl
  | k + 1 => by
    have ih := best_least f k
    have e : leastS (f 0) ((List.range (k + 1)).map fun i => f (i + 1)) = (if ltS (f (k + 1)) (leastS (f 0) ((List.range k).map fun i => f (i + 1))) = true then f (k + 1) else leastS (f 0) ((List.range k).map fun i => f (i + 1))) := by
      unfold leastS
      rw [List.range_succ, List.map_append, List.foldl_append]
      rfl
    rw [e, ← ih]
    show f (if ltS (f (k + 1)) (f (argBest (fun i j => ltS (f i) (f j)) k)) = true then k + 1 else argBest (fun i j => ltS (f i) (f j)) k) = _
    split <;> rfl
section
variable {prog : Program} {w : World} {A : Around} {E : Value → Shared → Prop} {s : Shared}
theorem min_two_strs {a b : Str} {t u : Tok} {Q : Value → Shared → Prop} (hh : A.handled = none)
    (h : ∀ h' tk v, (∀ c o, s.heap.get? c = some o → h'.get? c = some o) → (∃ t, v = .str (if ltS b a = true then b else a) t) → Q v { s with heap := h', toks := tk }) :
    wpAny (model prog w) A (call (.builtin "min") [.str a t, .str b u]) Q E s := by
  have hT : (s.heap.push { cls := .type "tuple", data := .seq #[.str a t, .str b u] }).IsTuple s.heap.objs.size (strItems #[(a, t), (b, u)]) := ⟨_, Heap.get?_push_size _ rfl, rfl, 0, by simp [strItems]⟩
  refine call_min_two (wpAny_pyIter_tuple hT ?_)
  have hsz : (s.heap.push { cls := .type "tuple", data := .seq #[.str a t, .str b u] }).objs.size = s.heap.objs.size + 1 := Heap.size_push ..
  refine ⟨_, [_, s.heap.objs.size], [_], _, _, _, _, rfl, Walks.tuple (A := A.in1) hh _ s.heap.objs.size (by rw [hsz]; exact Nat.ne_of_lt (Nat.lt_succ_self _)) (strItems #[(a, t), (b, u)]),
    ⟨⟨_, Heap.get?_push_size _ rfl, rfl, rfl⟩, hT.push _⟩, fun c hc => ?_, by simp [strItems], CmpOf_strs (strAt #[(a, t), (b, u)]) (fun _ _ => strItems_at), fun v h' tk hP hk => ?_⟩
  · show c < ((s.heap.push _).push _).objs.size
    rw [Heap.size_push, hsz]
    rcases List.mem_cons.mp hc with rfl | hc
    · rw [hsz]; exact Nat.lt_succ_self _
    · rcases List.mem_cons.mp hc with rfl | hc
      · exact Nat.lt_succ_of_lt (Nat.lt_succ_self _)
      · cases hc
  · have hold : ∀ c o, s.heap.get? c = some o → h'.get? c = some o := fun c o e => by
      refine hk c o (fun hm => ?_) (Heap.get?_push_of_some _ (Heap.get?_push_of_some _ e))
      rcases List.mem_cons.mp hm with e1 | hm
      · have := Heap.lt_size e; rw [e1, hsz] at this; exact Nat.lt_irrefl _ (Nat.lt_of_succ_lt this)
      · cases hm
    refine h h' tk v hold ?_
    obtain ⟨t', rfl⟩ := strItems_at hP
    refine ⟨t', ?_⟩
    have hsz2 : (strItems #[(a, t), (b, u)]).size - 1 = 1 := by simp [strItems]
    rw [hsz2, best_least (strAt #[(a, t), (b, u)])]
    rfl
theorem min_default {x : Value} {d : Value} {Q : Value → Shared → Prop}
    (h : wpAny (model prog w) A.in1 (pyIter x) (fun it s₂ => ∃ I fp wr n P St bt, it = .ref I ∧ Walks prog w A.in1 I fp wr n P St ∧ St 0 s₂.heap ∧ (∀ b ∈ fp, b < s₂.heap.objs.size) ∧ CmpOf prog w A.in1 .Lt P bt ∧
      (n = 0 → ∀ h' tk, (∀ b o, b ∉ wr → s₂.heap.get? b = some o → h'.get? b = some o) → Q d { s₂ with heap := h', toks := tk }) ∧
      (0 < n → ∀ v h' tk, P (argBest bt (n - 1)) v → (∀ b o, b ∉ wr → s₂.heap.get? b = some o → h'.get? b = some o) → Q v { s₂ with heap := h', toks := tk })) E s) :
    wpAny (model prog w) A (call (.builtin "min") [x] [(Str.ofString "default", d)]) Q E s := by
  have hname : (toString "min" ++ toString ".loop" : String) = "min.loop" := by decide
  refine wpAny_call (codeAny_call_builtin PySem.F.plain_min PySem.F.entry_min ?_)
  have ha : argsOk "min" ⟨[x], [(Str.ofString "default", d)]⟩ := by unfold argsOk; kernel_rfl
  simp only [checkBuiltinCall, PySem.F.kind_min]
  have main : wpAny (model prog w) A.in1 (Builtin.«min» ⟨[x], [(Str.ofString "default", d)]⟩) (fun fin s' => match fin with
      | .done f => (match (Except.ok f : Result) with | .ok (.ret v) => Q v s' | .ok _ => False | .error e => E e s')
      | .again c' => c'.quiet = true ∧ codeAny (model prog w) A c' (fun r s' => match r with | .ok (.ret v) => Q v s' | .ok _ => False | .error e => E e s') s') E s := by
    show wpAny _ A.in1 (Builtin.Builtins.bindParams "min" ["key", "default"] 0 ⟨[], [(Str.ofString "default", d)]⟩ >>= _) _ _ s
    refine wpAny_bind (wpAny_of_eq (show Builtin.Builtins.bindParams "min" ["key", "default"] 0 ⟨[], [(Str.ofString "default", d)]⟩ = pure [none, some d] from by kernel_rfl) ?_)
    refine wpAny_bind (wpAny_pure ?_)
    refine wpAny_bind (wpAny_mono h (fun it s₂ h₂ => ?_) fun _ _ e => e)
    obtain ⟨I, fp, wr, n, P, St, bt, rfl, W, hst, hfp, hcmp, h0, h1⟩ := h₂
    refine wpAny_bind (wpAny_newObj_type ?_)
    have hSf : s₂.heap.objs.size ∉ fp := fun hm => Nat.lt_irrefl _ (hfp _ hm)
    rw [hname]
    by_cases hn : n = 0
    · refine wpAny_pure ⟨plainId_quiet PySem.F.plain_min_loop _, min_loop_none W s₂.heap.objs.size hSf hn (W.frame _ _ _ hst fun b _ o e => Heap.get?_push_of_some _ e) (Heap.get?_push_size _ rfl) fun h' tk hk => ?_⟩
      exact h0 hn h' tk fun b o hbw e => hk b o hbw (Nat.ne_of_lt (Heap.lt_size e)) (Heap.get?_push_of_some _ e)
    · refine wpAny_pure ⟨plainId_quiet PySem.F.plain_min_loop _, min_loop_first W bt hcmp s₂.heap.objs.size hSf (by omega) (W.frame _ _ _ hst fun b _ o e => Heap.get?_push_of_some _ e) (Heap.get?_push_size _ rfl) fun v h' tk hP hk => ?_⟩
      exact h1 (by omega) v h' tk hP fun b o hbw e => hk b o hbw (Nat.ne_of_lt (Heap.lt_size e)) (Heap.get?_push_of_some _ e)
  cases hsig : Manifest.signature? "min" with
  | none => exact wpAny_pure main
  | some sig =>
    simp only [argsOk, hsig] at ha
    have h2 : Bind.checkArgs "min" sig ⟨[x], [(Str.ofString "default", d)]⟩ = pure () := ha
    show wpAny _ A.in1 (Bind.checkArgs "min" sig ⟨[x], [(Str.ofString "default", d)]⟩) _ _ s
    rw [h2]; exact wpAny_pure main
theorem iter_strList {l : Addr} {xs : Array (Str × Tok)} {Q : Value → Shared → Prop} (hl : s.heap.IsList l (strItems xs))
    (h : ∀ s₂ : Shared, s₂ = { s with heap := s.heap.push { cls := .type "list_iterator", data := .fields #[.ref l, .int 0 0] } } →
      (s₂.heap.IsListIter s.heap.objs.size l 0 ∧ s₂.heap.IsList l (strItems xs)) → (∀ b ∈ [s.heap.objs.size, l], b < s₂.heap.objs.size) → l ≠ s.heap.objs.size → Q (.ref s.heap.objs.size) s₂) :
    wpAny (model prog w) A (pyIter (.ref l)) Q E s := by
  have hlt : l < s.heap.objs.size := by obtain ⟨_, e, _⟩ := hl; exact Heap.lt_size e
  refine wpAny_pyIter_list hl (h _ rfl ⟨⟨_, Heap.get?_push_size _ rfl, rfl, rfl⟩, hl.push _⟩ (fun b hb => ?_) (Nat.ne_of_lt hlt))
  show b < (s.heap.push _).objs.size
  rw [Heap.size_push]
  rcases List.mem_cons.mp hb with rfl | hb
  · exact Nat.lt_succ_self _
  · rcases List.mem_cons.mp hb with rfl | hb
    · exact Nat.lt_succ_of_lt hlt
    · cases hb
theorem min_strList {l : Addr} {xs : Array (Str × Tok)} {d : Value} {Q : Value → Shared → Prop} (hh : A.handled = none) (hl : s.heap.IsList l (strItems xs))
    (h0 : xs.size = 0 → ∀ h' tk, (∀ b o, s.heap.get? b = some o → h'.get? b = some o) → Q d { s with heap := h', toks := tk })
    (h1 : 0 < xs.size → ∀ v h' tk, (∃ t, v = .str (leastS (strAt xs 0) ((List.range (xs.size - 1)).map fun i => strAt xs (i + 1))) t) → (∀ b o, s.heap.get? b = some o → h'.get? b = some o) → Q v { s with heap := h', toks := tk }) :
    wpAny (model prog w) A (call (.builtin "min") [.ref l] [(Str.ofString "default", d)]) Q E s := by
  refine min_default (iter_strList hl fun s₂ e st hfp hlI => ?_)
  subst e
  have kept : ∀ {h' : Heap}, (∀ b o, b ∉ [s.heap.objs.size] → (s.heap.push { cls := .type "list_iterator", data := .fields #[.ref l, .int 0 0] }).get? b = some o → h'.get? b = some o) → ∀ b o, s.heap.get? b = some o → h'.get? b = some o := fun {h'} hk b o e => by
    refine hk b o (fun hm => ?_) (Heap.get?_push_of_some _ e)
    rcases List.mem_cons.mp hm with e1 | hm
    · exact absurd (e1 ▸ Heap.lt_size e) (Nat.lt_irrefl _)
    · cases hm
  refine ⟨_, _, _, _, _, _, _, rfl, Walks.list (A := A.in1) hh _ l hlI (strItems xs), st, hfp, CmpOf_strs (strAt xs) (fun _ _ => strItems_at), fun hn h' tk hk => ?_, fun hn v h' tk hP hk => ?_⟩
  · exact h0 (by simpa [strItems] using hn) h' tk (kept hk)
  · have hz : (strItems xs).size = xs.size := by simp [strItems]
    rw [hz] at hn
    refine h1 hn v h' tk ?_ (kept hk)
    obtain ⟨t, rfl⟩ := strItems_at hP
    refine ⟨t, ?_⟩
    rw [hz, best_least (strAt xs)]
end
theorem strs_items : ∀ {zs : List Str} {its : List Value}, Vals (zs.map V.str) its → ∃ xs : List (Str × Tok), its = xs.map (fun p => Value.str p.1 p.2) ∧ xs.map (·.1) = zs
  | [], _, h => by cases h; exact ⟨[], rfl, rfl⟩
  | z :: zs, _, h => by
    cases h with
    | cons h t =>
      obtain ⟨t0, rfl⟩ := h
      obtain ⟨xs, rfl, e⟩ := strs_items t
      exact ⟨(z, t0) :: xs, rfl, by rw [List.map_cons, e]⟩
def minD : List Str → V → V
  | [], d => d
  | z :: zs, _ => .str (leastS z zs)
section
variable {X : Cx}
theorem call_minS (hc : X.calm = true) : CallR X (.builtin "min") (fun xs H Q => ∃ i j, xs = [.str i, .str j] ∧ Q (.str (if ltS j i = true then j else i)) H) := by
  intro pins s σ H xs us Q I r h
  obtain ⟨i, j, rfl, q⟩ := h
  obtain ⟨u, w', rfl, ⟨t, rfl⟩, ⟨t', rfl⟩⟩ := vals2 r
  exact min_two_strs (I.ok.hd hc) fun h' tk v k ⟨t2, e⟩ => ⟨.str _, H, I.kept k, ⟨t2, e⟩, q⟩
def rMinD (K : PySem.W.Frag) : List V → List V → Hp → VK → Prop := fun vs zs H Q => ∃ (a : Addr) (xs : List Str) (d : V), vs = [.ref a] ∧ zs = [d] ∧ SqL K H a (xs.map V.str) ∧ Q (minD xs d) H
theorem call_minD (hc : X.calm = true) : CallRK X (.builtin "min") [Str.ofString "default"] (rMinD X.K) := by
  intro pins s σ H vs zs us ws Q I r1 r2 h
  obtain ⟨a, xs, d, rfl, rfl, hs, q⟩ := h
  obtain ⟨its, rv, hl, _⟩ := I.list hs
  rw [Vals.ref1 r1]
  obtain ⟨dv, rfl, rd⟩ := vals1 r2
  obtain ⟨ps, rfl, e⟩ := strs_items rv
  have hl' : s.heap.IsList a (strItems ps.toArray) := by
    have e2 : (ps.map fun p => Value.str p.1 p.2).toArray = strItems ps.toArray := by unfold strItems; simp
    rw [← e2]; exact hl.isList
  show wpAny _ _ (call (.builtin "min") [.ref a] [(Str.ofString "default", dv)]) _ _ _
  refine min_strList (I.ok.hd hc) hl' (fun hz h' tk hk => ?_) (fun hz v h' tk ⟨t, e3⟩ hk => ?_)
  · have : ps = [] := by
      cases ps with
      | nil => rfl
      | cons _ _ => simp at hz
    subst this
    subst e
    exact ⟨d, H, I.kept hk, rd, q⟩
  · cases ps with
    | nil => simp at hz
    | cons p ps =>
      subst e
      refine ⟨.str _, H, I.kept hk, ⟨t, e3⟩, ?_⟩
      have e4 : leastS (strAt (p :: ps).toArray 0) ((List.range ((p :: ps).toArray.size - 1)).map fun i => strAt (p :: ps).toArray (i + 1)) = leastS p.1 (ps.map (·.1)) := by
        have e5 : (List.range ((p :: ps).toArray.size - 1)).map (fun i => strAt (p :: ps).toArray (i + 1)) = ps.map (·.1) := by
          apply List.ext_getElem
          · simp
          · intro i h1 h2
            simp at h1 h2
            simp [strAt, h2]
        rw [e5]
        rfl
      rw [e4]
      exact q
end
end L3M

namespace PySem.AutoSeq1
theorem list_extend_tupG (l : Addr) (items : Array Value) (n : Nat) (b : Addr) (items2 : Array Value) (n2 : Nat) (dd : Option Addr) (sl : Array (Option Value)) (hs0 : ¬(!items.isEmpty && Builtin.List.listTooLong (items.size + items2.size)) = true) (hs1 : items.size ≤ sizeLine) (hs2 : items.size + items2.size ≤ sizeLine + 1) :
    Meets (Builtin.«list.extend» ⟨[.ref l, .ref b], []⟩) (fun _ R s => s.heap.get? l = some { cls := .type "list", dict := none, data := .seq items n, slots := #[] } ∧ s.heap.get? b = some { cls := .type "tuple", dict := dd, data := .seq items2 n2, slots := sl } ∧ R (.ok (.ret Value.none)) { s with heap := s.heap.update l (Obj.mapSeq fun x => x ++ items2), toks := s.toks }) :=
  .of_wp fun prog w A R s h => by
    obtain ⟨hp, g, d, tk, os⟩ := s; obtain ⟨hl, hb, h⟩ := h; have f1 := idx_int; have f2 := sub_tuple_tuple; have f3 := sub_list_list; have f4 := sub_tuple_list; have f5 := sub_list_tuple;
    have hz' : (items ++ items2).size ≤ sizeLine + 1 := by rw [Array.size_append]; exact hs2
    wp_walk using (wpAny_updateSeq hl rfl (hz := hs1) (_hz' := hz')), wpAny_loadPart' hl, wpAny_loadPart' hb; exact ⟨_, rfl, h⟩
end PySem.AutoSeq1
namespace L3
open PySem PySem.Spec PyProof.Rows L2

/-! ### list.extend of a tuple -/
def rExtT (K : Fg) : V → List V → Hp → VK → Prop := fun x vs H Q => ∃ l b xs zs, x = .ref l ∧ vs = [.ref b] ∧ H l = some (.lst xs) ∧ SqT K H b zs ∧ xs.length + zs.length ≤ sizeLine ∧ Q .non (upd H l (.lst (xs ++ zs)))
theorem mt_extT {X : Cx} : MtM X "list.extend" (rExtT X.K) := by
  intro pins s σ H x vs v us Q I rx rv h
  obtain ⟨l, b, xs, zs, rfl, rfl, hH, hB, hz, q⟩ := h
  cases rx
  obtain ⟨u, rfl, ru⟩ := rv.one
  cases ru
  obtain ⟨z, its, n, r, hl, e⟩ := I.lstM hH
  obtain ⟨its2, r2, ⟨⟨cls, dd, data, sl⟩, e2, hc, n2, hd⟩, _⟩ := I.tuple hB
  simp only at hc hd
  subst hc hd
  have hl2 := r2.length
  have hsz : its.toArray.size + its2.toArray.size ≤ sizeLine := by rw [List.size_toArray, List.size_toArray]; omega
  have hlong : ¬ (!its.toArray.isEmpty && Builtin.List.listTooLong (its.toArray.size + its2.toArray.size)) = true := by
    rw [notLongL hsz, Bool.and_false]
    exact Bool.false_ne_true
  refine call_meets F.slot_list_extend ⟨_, e, rfl⟩ F.entry_list_extend (F.args_list_extend_2 _ _)
    (AutoSeq1.list_extend_tupG l its.toArray n b its2.toArray n2 dd sl hlong (by rw [List.size_toArray]; omega) (by omega)) ⟨e, e2, ?_⟩
  refine ⟨.non, _, I.lset (its' := its ++ its2) hH e (by simp) (r.append r2) ?_, rfl, q⟩
  rw [List.length_append]
  omega
theorem rm_extT {K : Fg} : RM K (rExtT K) mExtendT := fun F G H μ x vs u us P Q S rx rv ⟨a, ws, ds, e1, e2, h, z, p⟩ q => by
  subst e1 e2
  obtain ⟨v, rfl, q1⟩ := rus1 rv
  obtain ⟨xs, h1, h2⟩ := S.lst h
  obtain ⟨b, zs, rfl, t1, t2⟩ := rp_tup q1
  refine ⟨a, b, xs, zs, rx, rfl, h1, t1.sq S.sub, by rw [h2.length, t2.length]; exact z, ?_⟩
  exact q .non (.d .none) G _ _ (Ext.refl G) (S.write (m' := .lst (ws ++ ds.map U.d)) h ⟨xs ++ zs, upd_same, h2.append (rus_d t2)⟩) Rp.non p

/-! ### min of texts -/
def qMinS : WQ := fun us μ P => ∃ i j : Str, us = [.d (.str i), .d (.str j)] ∧ P (.d (.str (if L3M.ltS j i = true then j else i))) μ
def minDU : List Str → PyData → PyData
  | [], d => d
  | z :: zs, _ => .str (L3M.leastS z zs)
def wMinD (w : WL) (k : WL) : WX := fun ρ μ P => w ρ μ fun us μ1 => k ρ μ1 fun ks μ2 => ∃ (u : U) (xs : List Str) (d : PyData), us = [u] ∧ ks = [.d d] ∧ listU μ2 u = some (xs.map fun z => U.d (.str z)) ∧ P (.d (minDU xs d)) μ2
structure WK (X : Cx) (kws : List Keyword) (t : TA) (w : WL) : Prop where
  pk : PK X kws t
  ra : RA X.K t w
section
variable {K : Fg} {X : Cx} {pos p : Pos} {e : Expr} {es : List Expr} {t tk : TA} {w wk : WL} {x : Str}
theorem rq_minS : RQ K (fun xs H Q => ∃ i j, xs = [.str i, .str j] ∧ Q (.str (if L3M.ltS j i = true then j else i)) H) qMinS := fun F G H μ vs us P Q S r ⟨i, j, e, p⟩ q => by
  subst e
  obtain ⟨v, x, rfl, q1, q2⟩ := rus2 r
  rw [rp_str q1, rp_str q2]
  exact ⟨i, j, rfl, q _ (.d (.str _)) G H μ (Ext.refl G) S (Rp.str _) p⟩
theorem w_knil : WK X [] tNil wNil := ⟨pk_nil, ra_nil⟩
theorem w_kcons {nm : Option Str} {kpos : Pos} {kws : List Keyword} {te : TE} {we : WX} (h : WE X e te we) (k : WK X kws t w)
    (hp : PK X (⟨nm, e, kpos⟩ :: kws) (tCons te t)) : WK X (⟨nm, e, kpos⟩ :: kws) (tCons te t) (wCons we w) := ⟨hp, ra_cons h.re k.ra⟩
theorem re_minD (h : RA K t w) (k : RA K tk wk) : RE K (tCKw (L3M.rMinD K) t tk) (wMinD w wk) := fun F G H μ σ ρ P Q S x q => h F G H μ σ ρ _ _ S x fun vs us G1 H1 μ1 e1 S1 r1 p1 =>
  k F G1 H1 μ1 σ ρ _ _ (S.mono e1 S1) p1 fun zs ks G2 H2 μ2 e2 S2 r2 ⟨u, xs, d, eu, ek, hl, p2⟩ => by
    subst eu ek
    obtain ⟨v, rfl, q1⟩ := rus1 (r1.mono e2)
    obtain ⟨dv, rfl, q2⟩ := rus1 r2
    obtain ⟨a, ys, rfl, h1, h2⟩ := listU_ok S2 q1 hl
    rw [rus_map_str h2] at h1
    refine ⟨a, xs, dv, rfl, rfl, h1, ?_⟩
    refine q _ (.d (minDU xs d)) G2 H2 μ2 (e1.trans e2) S2 ?_ p2
    cases xs with
    | nil => exact q2
    | cons z zs => exact Rp.str _
theorem w_minD {kws : List Keyword} (hc : X.calm = true) (hg : Gl X x) (hm : X.mg x = none) (hv : bootBuiltins x = some (.builtin "min")) (ha : WAr X (e :: es) t w) (hk : WK X kws tk wk) (hn : x ≠ "__name__" := by decide) (hdb : (x == ("__debug__" : Str)) = false := by decide)
    (he : backTo pos (starEach (e :: es) X.env) = (false, eval e X.env) :: backTo pos (starEach es X.env) := by rfl) (hpl : (backTo pos (starEach (e :: es) X.env)).any (·.1) = false := by rfl)
    (hall : (backToKw pos (keywordEach kws X.env)).all (·.1.isSome) = true := by rfl) (hnone : (backToKw pos (keywordEach kws X.env)).any (·.1.isNone) = false := by rfl) (hks : (backToKw pos (keywordEach kws X.env)).filterMap (·.1) = [Str.ofString "default"] := by rfl) :
    WE X (.Call (.Name x p) (e :: es) kws pos) (tCKw (L3M.rMinD X.K) t tk) (wMinD w wk) := ⟨pe_callBK (L3M.call_minD hc) hg hm hv ha.pa hk.pk hn hdb he hpl hall hnone hks, re_minD ha.ra hk.ra⟩
end

/-! ### dicts that may change -/
def kU : Key → U
  | .inl i => .d (.int i)
  | .inr x => .d (.str x)
def putU (kvs : List (Key × U)) (k : Key) (v : U) : List (Key × U) :=
  if (kvs.any fun kv => decide (kv.1 = k)) = true then kvs.map (fun kv => if kv.1 = k then (kv.1, v) else kv) else kvs ++ [(k, v)]
def wDictN : WX := fun _ μ P => ∀ p, μ p = none → P (.r p) (put μ p (.dct []))
def wDPut (wd wk wv : WX) : WSt := fun B ρ μ => wv ρ μ fun v μ1 => wd ρ μ1 fun d μ2 => wk ρ μ2 fun k μ3 => ∃ a kvs y, d = .r a ∧ k = kU y ∧ μ3 a = some (.dct kvs) ∧ kvs.length < sizeLine ∧ B.nx ρ (put μ3 a (.dct (putU kvs y v)))
def qSortD : WQ := fun us μ P => ∃ (a : Addr) (kvs : List (Key × U)) (ks : List Str), us = [.r a] ∧ μ a = some (.dct kvs) ∧ kvs.map (·.1) = ks.map Sum.inr ∧ ks.length < 64 ∧ ∀ ys : List Str, ys.Perm ks → sortedS ys = true → P (.d (.list (ys.map .str))) μ
section
variable {K : Fg} {X : Cx} {pos : Pos}
theorem rkv_len {G : Hp} : ∀ {vs : List (Key × V)} {us : List (Key × U)}, Rkv K G vs us → vs.length = us.length
  | _, _, .nil => rfl
  | _, _, .cons _ t => congrArg Nat.succ (rkv_len t)
theorem rkv_keys {G : Hp} : ∀ {vs : List (Key × V)} {us : List (Key × U)}, Rkv K G vs us → vs.map (·.1) = us.map (·.1)
  | _, _, .nil => rfl
  | _, _, .cons _ t => by rw [List.map_cons, List.map_cons, rkv_keys t]
theorem rkv_any {G : Hp} {k : Key} : ∀ {vs : List (Key × V)} {us : List (Key × U)}, Rkv K G vs us → (vs.any fun kv => decide (kv.1 = k)) = us.any fun kv => decide (kv.1 = k)
  | _, _, .nil => rfl
  | _, _, .cons _ t => by rw [List.any_cons, List.any_cons, rkv_any t]
theorem rkv_map {G : Hp} {k : Key} {v : V} {u : U} (r : Ru K G v u) : ∀ {vs : List (Key × V)} {us : List (Key × U)}, Rkv K G vs us → Rkv K G (vs.map fun kv => if kv.1 = k then (kv.1, v) else kv) (us.map fun kv => if kv.1 = k then (kv.1, u) else kv)
  | _, _, .nil => .nil
  | _, _, .cons (k := j) h t => by
    rw [List.map_cons, List.map_cons]
    by_cases e : j = k
    · rw [if_pos e, if_pos e]; exact .cons r (rkv_map r t)
    · rw [if_neg e, if_neg e]; exact .cons h (rkv_map r t)
theorem rkv_app {G : Hp} {k : Key} {v : V} {u : U} (r : Ru K G v u) : ∀ {vs : List (Key × V)} {us : List (Key × U)}, Rkv K G vs us → Rkv K G (vs ++ [(k, v)]) (us ++ [(k, u)])
  | _, _, .nil => .cons r .nil
  | _, _, .cons h t => .cons h (rkv_app r t)
theorem rkv_put {G : Hp} {k : Key} {v : V} {u : U} (r : Ru K G v u) {vs : List (Key × V)} {us : List (Key × U)} (h : Rkv K G vs us) : Rkv K G (putK vs k v) (putU us k u) := by
  unfold putK putU
  rw [rkv_any h]
  split
  · exact rkv_map r h
  · exact rkv_app r h
theorem ru_key {G : Hp} {v : V} {k : Key} (h : Ru K G v (kU k)) : v = kV k := by
  cases k with
  | inl i => exact rp_int h
  | inr x => exact rp_str h
theorem w_dictN : WE X (.Dict [] [] pos) tDNewK wDictN := ⟨pe_dnewK, fun F G H μ σ ρ P Q S w q => fun p hp => q (.ref p) (.r p) G _ _ (Ext.refl G) (S.st.newM (m := .dct []) hp ⟨[], upd_same, .nil⟩) rfl (w p (S.st.mnone hp))⟩
theorem rs_dput {td ty tv : TE} {wd wk wv : WX} (hd : RE K td wd) (hk : RE K ty wk) (hv : RE K tv wv) : RS K (sDPut td ty tv) (wDPut wd wk wv) := fun F G H μ σ ρ D B S L w => hv F G H μ σ ρ _ _ S w fun v vu G1 H1 μ1 e1 S1 r1 p1 =>
  hd F G1 H1 μ1 σ ρ _ _ (S.mono e1 S1) p1 fun d du G2 H2 μ2 e2 S2 r2 p2 => hk F G2 H2 μ2 σ ρ _ _ (S.mono (e1.trans e2) S2) p2 fun k ku G3 H3 μ3 e3 S3 r3 ⟨a, kvs, y, ed, ek, hm, hz, p3⟩ => by
    subst ed ek
    obtain ⟨_, kws, h1, h2⟩ := S3.mu _ _ hm
    have rv : Ru K G3 v vu := (r1.mono e2).mono e3
    rw [ru_key r3]
    refine ⟨a, _, r2, DPut.k h1 (by rw [rkv_len h2]; exact hz), ?_⟩
    have S4 := S3.write (m' := .dct (putU kvs y vu)) hm ⟨putK kws y v, upd_same, rkv_put rv h2⟩
    exact L.nx σ G3 _ ρ _ ((e1.trans e2).trans e3) ((S.mono ((e1.trans e2).trans e3) S3).mono (Ext.refl _) S4) p3
theorem w_dput {o i value : Expr} {pos' : Pos} {td ty tv : TE} {wd wk wv : WX} (hu : X.A.units + 1 < cLine) (ho : WE X o td wd) (hi : WE X i ty wk) (hv : WE X value tv wv) (hs : swapsWith value (some (.Subscript o i pos')) pos.line X.env = pure false := by rfl) :
    WS X (.Assign [.Subscript o i pos'] value pos) (sDPut td ty tv) (wDPut wd wk wv) := ⟨ps_dput hu ho.pe hi.pe hv.pe hs, rs_dput ho.re hi.re hv.re⟩
theorem rq_sortD : RQ K (fun xs H Q => ∃ (a : Addr) (kvs : List (Key × V)) (ks : List Str), xs = [.ref a] ∧ Rd H a (.dK kvs) ∧ kvs.map (·.1) = ks.map Sum.inr ∧ ks.length < 64 ∧ ∀ ys p, ys.Perm ks → sortedS ys = true → H p = none → Q (.ref p) (upd H p (.lst (ys.map V.str)))) qSortD := fun F G H μ vs us P Q S r ⟨a, kvs, ks, e, hm, hk, hz, p⟩ q => by
  subst e
  obtain ⟨v, rfl, q1⟩ := rus1 r
  obtain ⟨_, kws, h1, h2⟩ := S.mu _ _ hm
  refine ⟨a, kws, ks, by rw [show v = .ref a from q1], .inl h1, by rw [rkv_keys h2]; exact hk, hz, fun zs l hp hso hl => ?_⟩
  obtain ⟨e2, S2⟩ := S.newG (o := .lst (zs.map V.str)) hl
  exact q (.ref l) (.d (.list (zs.map .str))) _ _ μ e2 S2 (Rp.lst (SqL.of upd_same) (rps_strs' zs)) (p zs hp hso)
end

/-! ### join -/
def wJoin (wo we : WX) : WX := fun ρ μ P => wo ρ μ fun o μ1 => ∃ a : Str, o = .d (.str a) ∧ we ρ μ1 fun u μ2 => ∃ ys : List Str, itemsU μ2 u = some (ys.map fun z => U.d (.str z)) ∧ (ys.map (·.length)).sum + ys.length * a.length ≤ 16777216 ∧ P (.d (.str (Txt.join a ys))) μ2
theorem w_join {X : Cx} {o e : Expr} {to te : TE} {wo we : WX} {apos pos : Pos} (ho : WE X o to wo) (he : WE X e te we) (hs : starEach [e] X.env = [(false, eval e X.env)] := by rfl) (hbase : attributeBase o "join" X.env (eval o X.env) = eval o X.env := by rfl) (hline : (apos.endLine == pos.line) = true := by rfl) :
    WE X (.Call (.Attribute o "join" apos) [e] [] pos) (tM1 (fun x xs H Q => ∃ a p, ∃ ys : List Str, x = .str a ∧ xs = [.ref p] ∧ (SqL X.K H p (ys.map V.str) ∨ SqT X.K H p (ys.map V.str)) ∧
      (ys.map (·.length)).sum + ys.length * a.length ≤ 16777216 ∧ Q (.str (Txt.join a ys)) H) to te) (wJoin wo we) :=
  ⟨pe_join ho.pe he.pe hs hbase hline, fun F G H μ σ ρ P Q S w q => ho.re F G H μ σ ρ _ _ S w fun v u G1 H1 μ1 e1 S1 r1 ⟨a, eo, p1⟩ => by
    subst eo
    refine ⟨⟨a, rp_str r1⟩, he.re F G1 H1 μ1 σ ρ _ _ (S.mono e1 S1) p1 fun v2 u2 G2 H2 μ2 e2 S2 r2 ⟨ys, hi, hz, p2⟩ => ?_⟩
    obtain ⟨b, vs, rfl, hs, r3⟩ := itemsU_ok S2 r2 hi
    rw [rus_map_str r3] at hs
    exact ⟨a, b, ys, rp_str r1, rfl, hs, hz, q (.str _) (.d (.str _)) G2 H2 μ2 (e1.trans e2) S2 (Rp.str _) p2⟩⟩
end L3

namespace L3
open PySem PySem.Spec PyProof.Rows L2

/-! ### one rule a sign, whatever the kinds -/
theorem ro_or {K : Fg} {r r' : R2} {s s' t : WR} (h : RO K r s) (h' : RO K r' s') (ht : ∀ u w μ P, t u w μ P → s u w μ P ∨ s' u w μ P) : RO K (fun x y H Q => r x y H Q ∨ r' x y H Q) t := fun F G H μ x y u w P Q S rx ry p q => by
  rcases ht u w μ P p with p | p
  · exact .inl (h F G H μ x y u w P Q S rx ry p q)
  · exact .inr (h' F G H μ x y u w P Q S rx ry p q)
theorem rq_or {K : Fg} {r r' : List V → Hp → VK → Prop} {s s' t : WQ} (h : RQ K r s) (h' : RQ K r' s') (ht : ∀ u μ P, t u μ P → s u μ P ∨ s' u μ P) : RQ K (fun x H Q => r x H Q ∨ r' x H Q) t := fun F G H μ vs us P Q S rx p q => by
  rcases ht us μ P p with p | p
  · exact .inl (h F G H μ vs us P Q S rx p q)
  · exact .inr (h' F G H μ vs us P Q S rx p q)
theorem rm_or {K : Fg} {r r' : V → List V → Hp → VK → Prop} {s s' t : WM} (h : RM K r s) (h' : RM K r' s') (ht : ∀ u us μ P, t u us μ P → s u us μ P ∨ s' u us μ P) : RM K (fun x vs H Q => r x vs H Q ∨ r' x vs H Q) t := fun F G H μ x vs u us P Q S rx rv p q => by
  rcases ht u us μ P p with p | p
  · exact .inl (h F G H μ x vs u us P Q S rx rv p q)
  · exact .inr (h' F G H μ x vs u us P Q S rx rv p q)
def sAdd : WR := fun u w μ P => match u, w with
  | .d (.int i), .d (.int j) => P (.d (.int (i + j))) μ
  | .d (.str i), .d (.str j) => i.length + j.length ≤ sizeLine ∧ P (.d (.str (i ++ j))) μ
  | u, w => sCatL u w μ P
def sCmp (fi : Int → Int → Bool) (fs : Str → Str → Bool) : WR := fun u w μ P => match u, w with
  | .d (.int i), .d (.int j) => P (.d (.bool (fi i j))) μ
  | .d (.str i), .d (.str j) => P (.d (.bool (fs i j))) μ
  | _, _ => False
def sEqA (f : Bool → Bool) : WR := fun u w μ P => match u, w with
  | .d (.int i), .d (.int j) => P (.d (.bool (f (decide (i = j))))) μ
  | .d (.str i), .d (.str j) => P (.d (.bool (f (decide (i = j))))) μ
  | .d (.bool i), .d (.bool j) => P (.d (.bool (f (decide (i = j))))) μ
  | u, w => sEq f u w μ P
def sInA (f : Bool → Bool) : WR := fun u w μ P => match u with
  | .d (.str _) => sInS f u w μ P
  | _ => sInI f u w μ P
def sEqS (f : Bool → Bool) : WR := fun u w μ P => (∃ i j, u = .d (.int i) ∧ w = .d (.int j) ∧ P (.d (.bool (f (decide (i = j))))) μ) ∨ (∃ i j, u = .d (.str i) ∧ w = .d (.str j) ∧ P (.d (.bool (f (decide (i = j))))) μ) ∨ (∃ i j, u = .d (.bool i) ∧ w = .d (.bool j) ∧ P (.d (.bool (f (decide (i = j))))) μ)
section
variable {K : Fg} {X : Cx} {pos : Pos} {a b : Expr} {ta tb : TE} {wa wb : WX}
theorem ro_eqS : RO K rEq (sEqS id) := fun F G H μ x y u w P Q S rx ry p q => by
  rcases p with ⟨i, j, e1, e2, p⟩ | ⟨i, j, e1, e2, p⟩ | ⟨i, j, e1, e2, p⟩ <;> subst e1 e2
  · rw [rp_int rx, rp_int ry]
    refine ⟨rfl, ?_⟩
    have e : decide (V.int i = V.int j) = decide (i = j) := by simp
    rw [e]; exact q _ (.d (.bool _)) G H μ (Ext.refl G) S (Rp.bl _) p
  · rw [rp_str rx, rp_str ry]
    refine ⟨rfl, ?_⟩
    have e : decide (V.str i = V.str j) = decide (i = j) := by simp
    rw [e]; exact q _ (.d (.bool _)) G H μ (Ext.refl G) S (Rp.bl _) p
  · rw [rp_bl rx, rp_bl ry]
    refine ⟨rfl, ?_⟩
    have e : decide (V.bl i = V.bl j) = decide (i = j) := by simp
    rw [e]; exact q _ (.d (.bool _)) G H μ (Ext.refl G) S (Rp.bl _) p
theorem ro_neS : RO K rNe (sEqS not) := fun F G H μ x y u w P Q S rx ry p q => by
  rcases p with ⟨i, j, e1, e2, p⟩ | ⟨i, j, e1, e2, p⟩ | ⟨i, j, e1, e2, p⟩ <;> subst e1 e2
  · rw [rp_int rx, rp_int ry]
    refine ⟨rfl, ?_⟩
    have e : decide (V.int i = V.int j) = decide (i = j) := by simp
    rw [e]; exact q _ (.d (.bool _)) G H μ (Ext.refl G) S (Rp.bl _) p
  · rw [rp_str rx, rp_str ry]
    refine ⟨rfl, ?_⟩
    have e : decide (V.str i = V.str j) = decide (i = j) := by simp
    rw [e]; exact q _ (.d (.bool _)) G H μ (Ext.refl G) S (Rp.bl _) p
  · rw [rp_bl rx, rp_bl ry]
    refine ⟨rfl, ?_⟩
    have e : decide (V.bl i = V.bl j) = decide (i = j) := by simp
    rw [e]; exact q _ (.d (.bool _)) G H μ (Ext.refl G) S (Rp.bl _) p
theorem eqA_cases {f : Bool → Bool} {u w : U} {μ : Mu} {P : XP} (h : sEqA f u w μ P) : sEqS f u w μ P ∨ sEq f u w μ P := by
  unfold sEqA at h
  split at h
  · exact .inl (.inl ⟨_, _, rfl, rfl, h⟩)
  · exact .inl (.inr (.inl ⟨_, _, rfl, rfl, h⟩))
  · exact .inl (.inr (.inr ⟨_, _, rfl, rfl, h⟩))
  · exact .inr h
structure WCp (X : Cx) (c : Expr) (t : TE) (w : WX) : Prop where
  e : WE X c t w
  t : WT X c (tB t) (wB w)
theorem w_cmpC {op : CmpOp} {r : R2} {s : WR} (ho : OpR X (compareOp op) r) (hr : RO X.K r s) (ha : WE X a ta wa) (hb : WE X b tb wb) (hm : behindInMarks op b = false) : WCp X (.Compare a [op] [b] pos) (tOp r ta tb) (wOp s wa wb) :=
  ⟨w_cmp ho hr ha hb hm, ⟨pt_cmpR ho ha.pe hb.pe hm, rt_B (re_op hr ha.re hb.re)⟩⟩
theorem w_eq (hu : X.A.units + 64 < cLine) (ha : WE X a ta wa) (hb : WE X b tb wb) : WCp X (.Compare a [.Eq] [b] pos) (tOp (fun x y H Q => rEq x y H Q ∨ rEqD X.K x y H Q) ta tb) (wOp (sEqA id) wa wb) :=
  w_cmpC (OpR.or op_eq (op_eqD hu)) (ro_or ro_eqS ro_eq fun _ _ _ _ => eqA_cases) ha hb (nomark _)
theorem w_ne (hu : X.A.units + 64 < cLine) (ha : WE X a ta wa) (hb : WE X b tb wb) : WCp X (.Compare a [.NotEq] [b] pos) (tOp (fun x y H Q => rNe x y H Q ∨ rNeD X.K x y H Q) ta tb) (wOp (sEqA not) wa wb) :=
  w_cmpC (OpR.or op_ne (op_neD hu)) (ro_or ro_neS ro_ne fun _ _ _ _ => eqA_cases) ha hb (nomark _)
theorem cmp_cases {fi : Int → Int → Bool} {fs : Str → Str → Bool} {u w : U} {μ : Mu} {P : XP} (h : sCmp fi fs u w μ P) : sI0 (fun i j => .bool (fi i j)) u w μ P ∨ sS (fun i j => .bool (fs i j)) u w μ P := by
  unfold sCmp at h
  split at h
  · exact .inl ⟨_, _, rfl, rfl, h⟩
  · exact .inr ⟨_, _, rfl, rfl, h⟩
  · exact h.elim
abbrev sLt : WR := sCmp (fun i j => decide (i < j)) (fun i j => decide (i.cps.toList < j.cps.toList))
abbrev sGt : WR := sCmp (fun i j => decide (j < i)) (fun i j => decide (j.cps.toList < i.cps.toList))
abbrev sLe : WR := sCmp (fun i j => decide (i ≤ j)) (fun i j => !decide (j.cps.toList < i.cps.toList))
abbrev sGe : WR := sCmp (fun i j => decide (j ≤ i)) (fun i j => !decide (i.cps.toList < j.cps.toList))
def w_lt (ha : WE X a ta wa) (hb : WE X b tb wb) := show WCp X (.Compare a [.Lt] [b] pos) _ (wOp sLt wa wb) from w_cmpC (OpR.or op_lt op_lt_str) (ro_or (ro_I0 fun _ _ _ => .bl _) (ro_S (gv := fun i j => .bl (decide (i.cps.toList < j.cps.toList))) fun _ _ _ => .bl _) fun _ _ _ _ => cmp_cases) ha hb (nomark _)
def w_gt (ha : WE X a ta wa) (hb : WE X b tb wb) := show WCp X (.Compare a [.Gt] [b] pos) _ (wOp sGt wa wb) from w_cmpC (OpR.or op_gt op_gt_str) (ro_or (ro_I0 fun _ _ _ => .bl _) (ro_S (gv := fun i j => .bl (decide (j.cps.toList < i.cps.toList))) fun _ _ _ => .bl _) fun _ _ _ _ => cmp_cases) ha hb (nomark _)
def w_le (ha : WE X a ta wa) (hb : WE X b tb wb) := show WCp X (.Compare a [.LtE] [b] pos) _ (wOp sLe wa wb) from w_cmpC (OpR.or op_le op_le_str) (ro_or (ro_I0 fun _ _ _ => .bl _) (ro_S (gv := fun i j => .bl (!decide (j.cps.toList < i.cps.toList))) fun _ _ _ => .bl _) fun _ _ _ _ => cmp_cases) ha hb (nomark _)
def w_ge (ha : WE X a ta wa) (hb : WE X b tb wb) := show WCp X (.Compare a [.GtE] [b] pos) _ (wOp sGe wa wb) from w_cmpC (OpR.or op_ge op_ge_str) (ro_or (ro_I0 fun _ _ _ => .bl _) (ro_S (gv := fun i j => .bl (!decide (i.cps.toList < j.cps.toList))) fun _ _ _ => .bl _) fun _ _ _ _ => cmp_cases) ha hb (nomark _)
theorem inA_cases {f : Bool → Bool} {u w : U} {μ : Mu} {P : XP} (h : sInA f u w μ P) : sInS f u w μ P ∨ sInI f u w μ P := by
  unfold sInA at h
  split at h
  · exact .inl h
  · exact .inr h
theorem or_same {f : Value → Value → Sem Value} {r : R2} (h : OpR X f r) : OpR X f (fun x y H Q => r x y H Q ∨ r x y H Q) := OpR.or h h
def w_in (ha : WE X a ta wa) (hb : WE X b tb wb) (hm : behindInMarks .In b = false := by rfl) := show WCp X (.Compare a [.In] [b] pos) _ (wOp (sInA id) wa wb) from w_cmpC (or_same op_in_seq) (ro_or (ro_inS (neg := false)) (ro_inI (neg := false)) fun _ _ _ _ h => inA_cases h) ha hb hm
def w_notin (ha : WE X a ta wa) (hb : WE X b tb wb) (hm : behindInMarks .NotIn b = false := by rfl) := show WCp X (.Compare a [.NotIn] [b] pos) _ (wOp (sInA not) wa wb) from w_cmpC (or_same op_notIn_seq) (ro_or (ro_inS (neg := true)) (ro_inI (neg := true)) fun _ _ _ _ h => inA_cases h) ha hb hm
def w_isB {c : Bool} {j : Nat} {p2 : Pos} (ha : WE X a ta wa) := show WCp X (.Compare a [.Is] [.Constant (.bool c) j p2] pos) _ (wOp (sIs c id) wa (wC (.bool c))) from w_cmpC (op_isB (b := c)) (ro_isB (b := c) (f := id)) ha (w_bl (b := c) (j := j) (pos := p2)) (nomark _)
def w_isnotB {c : Bool} {j : Nat} {p2 : Pos} (ha : WE X a ta wa) := show WCp X (.Compare a [.IsNot] [.Constant (.bool c) j p2] pos) _ (wOp (sIs c not) wa (wC (.bool c))) from w_cmpC (op_isnotB (b := c)) (ro_isB (b := c) (f := not)) ha (w_bl (b := c) (j := j) (pos := p2)) (nomark _)
def w_isN {j : Nat} {p2 : Pos} (ha : WE X a ta wa) := show WCp X (.Compare a [.Is] [.Constant .none j p2] pos) _ (wOp (sIsN id) wa (wC .none)) from w_cmpC op_isN ro_isN ha w_non (nomark _)
def w_isnotN {j : Nat} {p2 : Pos} (ha : WE X a ta wa) := show WCp X (.Compare a [.IsNot] [.Constant .none j p2] pos) _ (wOp (sIsN not) wa (wC .none)) from w_cmpC op_notN ro_notN ha w_non (nomark _)
theorem add_cases {u w : U} {μ : Mu} {P : XP} (h : sAdd u w μ P) : sI0 (fun i j => .int (i + j)) u w μ P ∨ (sCatS u w μ P ∨ sCatL u w μ P) := by
  unfold sAdd at h
  split at h
  · exact .inl ⟨_, _, rfl, rfl, h⟩
  · exact .inr (.inl ⟨_, _, rfl, rfl, h.1, h.2⟩)
  · exact .inr (.inr h)
def w_add (ha : WE X a ta wa) (hb : WE X b tb wb) := show WE X (.BinOp a .Add b pos) _ (wOp sAdd wa wb) from w_bin (OpR.or op_add (OpR.or op_add_str op_catW)) (ro_or (ro_I0 fun _ _ _ => .int _) (ro_or ro_catS ro_catL (t := fun u w μ P => sCatS u w μ P ∨ sCatL u w μ P) fun _ _ _ _ h => h) fun _ _ _ _ => add_cases) ha hb
abbrev sSub : WR := sI0 fun i j => .int (i - j)
abbrev sMul : WR := sI CMul fun i j => .int (i * j)
abbrev sFdiv : WR := sI CDivN fun i j => .int (i.fdiv j)
abbrev sMod : WR := sI (fun _ j => 0 < j) fun i j => .int (i % j)
abbrev sPow : WR := sI CPow fun i j => .int (i ^ j.toNat)
abbrev sShl : WR := sI CPow fun i j => .int (i * 2 ^ j.toNat)
abbrev sShr : WR := sI (fun _ j => 0 ≤ j) fun i j => .int (i / 2 ^ j.toNat)
abbrev sBand : WR := sI0 fun i j => .int (Builtin.bitAnd i j)
def w_sub (ha : WE X a ta wa) (hb : WE X b tb wb) := show WE X (.BinOp a .Sub b pos) _ (wOp sSub wa wb) from w_bin op_sub (ro_I0 fun _ _ _ => .int _) ha hb
def w_mul (ha : WE X a ta wa) (hb : WE X b tb wb) := show WE X (.BinOp a .Mult b pos) _ (wOp sMul wa wb) from w_bin op_mul (ro_I fun _ _ _ => .int _) ha hb
def w_fdiv (ha : WE X a ta wa) (hb : WE X b tb wb) := show WE X (.BinOp a .FloorDiv b pos) _ (wOp sFdiv wa wb) from w_bin op_fdivN (ro_I fun _ _ _ => .int _) ha hb
def w_mod (ha : WE X a ta wa) (hb : WE X b tb wb) := show WE X (.BinOp a .Mod b pos) _ (wOp sMod wa wb) from w_bin op_mod (ro_I fun _ _ _ => .int _) ha hb
def w_pow (ha : WE X a ta wa) (hb : WE X b tb wb) := show WE X (.BinOp a .Pow b pos) _ (wOp sPow wa wb) from w_bin op_pow (ro_I fun _ _ _ => .int _) ha hb
def w_shl (ha : WE X a ta wa) (hb : WE X b tb wb) := show WE X (.BinOp a .LShift b pos) _ (wOp sShl wa wb) from w_bin op_shl (ro_I fun _ _ _ => .int _) ha hb
def w_shr (ha : WE X a ta wa) (hb : WE X b tb wb) := show WE X (.BinOp a .RShift b pos) _ (wOp sShr wa wb) from w_bin op_shr (ro_I fun _ _ _ => .int _) ha hb
def w_band (ha : WE X a ta wa) (hb : WE X b tb wb) := show WE X (.BinOp a .BitAnd b pos) _ (wOp sBand wa wb) from w_bin op_and (ro_I0 fun _ _ _ => .int _) ha hb
def wNeg (w : WX) : WX := fun ρ μ P => w ρ μ fun u μ1 => ∃ i, u = .d (.int i) ∧ P (.d (.int (-i))) μ1
theorem w_neg (ha : WE X a ta wa) : WE X (.UnaryOp .USub a pos) (tUn (rU fun i => .int (-i)) ta) (wNeg wa) := ⟨pe_un un_neg ha.pe, fun F G H μ σ ρ P Q S w q => ha.re F G H μ σ ρ _ _ S w fun v u G1 H1 μ1 e1 S1 r1 ⟨i, e, p⟩ => by
  subst e
  exact ⟨i, rp_int r1, q (.int (-i)) (.d (.int (-i))) G1 H1 μ1 e1 S1 (Rp.int _) p⟩⟩
end

/-! ### truth of any thing -/
def truU (μ : Mu) : U → Option Bool
  | .d .none => some false
  | .d (.bool b) => some b
  | .d (.int i) => some (i != 0)
  | .d (.list l) => some (!l.isEmpty)
  | .d (.tuple l) => some (!l.isEmpty)
  | .r a => (match μ a with
    | some (.lst us) => some (!us.isEmpty)
    | some (.dct us) => some (!us.isEmpty)
    | _ => none)
  | _ => none
def wTru (a : WX) : WB := fun ρ μ P => a ρ μ fun x μ1 => ∃ b, truU μ1 x = some b ∧ P b μ1
section
variable {K : Fg} {X : Cx} {pos : Pos} {a : Expr} {ta : TE} {wa : WX}
theorem rt_tru (h : RE K ta wa) : RT K (fun σ H Q => ta σ H fun x H' => ∃ k, TruV K x H' k ∧ Q k H') (wTru wa) := fun F G H μ σ ρ P Q S w q => h F G H μ σ ρ _ _ S w fun v u G1 H1 μ1 e1 S1 r1 ⟨b, hb, p⟩ => by
  refine ⟨b, ?_, q b G1 H1 μ1 e1 S1 p⟩
  cases u with
  | d z =>
    cases z with
    | none => rw [rp_non r1]; exact (Option.some.inj hb).symm
    | bool c => rw [rp_bl r1]; exact (Option.some.inj hb).symm
    | int c => rw [rp_int r1]; exact (Option.some.inj hb).symm
    | str c => cases hb
    | list l =>
      obtain ⟨x, vs, rfl, h1, h2⟩ := rp_lst r1
      exact .inl ⟨vs, sqlE S1.sub h1, by rw [isEmpty_len h2.length]; exact (Option.some.inj hb).symm⟩
    | tuple l =>
      obtain ⟨x, vs, rfl, h1, h2⟩ := rp_tup r1
      exact .inr (.inl ⟨vs, h1.sq S1.sub, by rw [isEmpty_len h2.length]; exact (Option.some.inj hb).symm⟩)
    | dict l => cases hb
  | r x =>
    have hb' : (match μ1 x with
      | some (.lst us) => some (!us.isEmpty)
      | some (.dct us) => some (!us.isEmpty)
      | _ => none) = some b := hb
    rw [show v = .ref x from r1]
    cases hm : μ1 x with
    | none => rw [hm] at hb'; cases hb'
    | some m =>
      rw [hm] at hb'
      cases m with
      | lst us =>
        obtain ⟨vs, h1, h2⟩ := S1.lst hm
        exact .inl ⟨vs, SqL.of h1, by rw [isEmpty_len h2.length]; exact (Option.some.inj hb').symm⟩
      | dct us =>
        obtain ⟨_, kws, h1, h2⟩ := S1.mu _ _ hm
        exact .inr (.inr ⟨kws, h1, by rw [isEmpty_len (rkv_len h2)]; exact (Option.some.inj hb').symm⟩)
      | hand => cases hb'
theorem w_tru (h : WE X a ta wa) (he : ∀ whole, isTrue a X.env whole = (do let v ← whole; standAt a.pos; holding [v] (truthy v)) := by intro _; rfl) : WT X a (fun σ H Q => ta σ H fun x H' => ∃ k, TruV X.K x H' k ∧ Q k H') (wTru wa) := ⟨pt_truth h.pe he, rt_tru h.re⟩
end

/-! ### built-in calls, whatever the kinds -/
def qLenA : WQ := fun us μ P => match us with
  | [.d (.str z)] => z.length ≤ sizeLine ∧ P (.d (.int (z.length : Int))) μ
  | us => qLen us μ P
def qMinA : WQ := fun us μ P => match us with
  | [.d (.int i), .d (.int j)] => P (.d (.int (if j < i then j else i))) μ
  | us => qMinS us μ P
def isDct (μ : Mu) : U → Bool
  | .r a => (match μ a with
    | some (.dct _) => true
    | _ => false)
  | _ => false
def qSortA : WQ := fun us μ P => match us with
  | [u] => if isDct μ u = true then qSortD us μ P else qSortS us μ P
  | _ => False
section
variable {K : Fg} {X : Cx} {pos p : Pos} {e : Expr} {es : List Expr} {t : TA} {w : WL} {x : Str}
theorem or_Q {f : Value} {r r' : List V → Hp → VK → Prop} (h : CallR X f r) (h' : CallR X f r') : CallR X f (fun xs H Q => r xs H Q ∨ r' xs H Q) := CallR.or h h'
def w_len (hg : Gl X "len") (hm : X.mg "len" = none) (ha : WAr X (e :: es) t w) (he : starEach (e :: es) X.env = (false, eval e X.env) :: starEach es X.env := by rfl) (hpl : (backTo pos (starEach es X.env)).any (·.1) = false := by rfl) := show WE X (.Call (.Name "len" p) (e :: es) [] pos) _ (wQ qLenA w) from w_qb (or_Q call_len_seq call_len_str) (rq_or rq_len rq_lenS (t := qLenA) fun us μ P h => by
      unfold qLenA at h
      split at h
      · exact .inr ⟨_, rfl, h.1, h.2⟩
      · exact .inl h) hg hm boot_len ha (by decide) (by decide) he hpl
def w_abs (hg : Gl X "abs") (hm : X.mg "abs" = none) (ha : WAr X (e :: es) t w) (he : starEach (e :: es) X.env = (false, eval e X.env) :: starEach es X.env := by rfl) (hpl : (backTo pos (starEach es X.env)).any (·.1) = false := by rfl) := show WE X (.Call (.Name "abs" p) (e :: es) [] pos) _ (wQ qAbs w) from w_qb call_abs rq_abs hg hm boot_abs ha (by decide) (by decide) he hpl
theorem boot_min' : bootBuiltins "min" = some (.builtin "min") := by decide +kernel
theorem boot_max' : bootBuiltins "max" = some (.builtin "max") := by decide +kernel
theorem boot_int' : bootBuiltins "int" = some (.type "int") := by decide +kernel
theorem boot_str' : bootBuiltins "str" = some (.type "str") := by decide +kernel
theorem boot_list' : bootBuiltins "list" = some (.type "list") := by decide +kernel
theorem boot_tuple' : bootBuiltins "tuple" = some (.type "tuple") := by decide +kernel
theorem boot_bool' : bootBuiltins "bool" = some (.type "bool") := by decide +kernel
def w_min (hc : X.calm = true) (hg : Gl X "min") (hm : X.mg "min" = none) (ha : WAr X (e :: es) t w) (he : starEach (e :: es) X.env = (false, eval e X.env) :: starEach es X.env := by rfl) (hpl : (backTo pos (starEach es X.env)).any (·.1) = false := by rfl) := show WE X (.Call (.Name "min" p) (e :: es) [] pos) _ (wQ qMinA w) from w_qb (or_Q (call_min2 hc) (L3M.call_minS hc)) (rq_or rq_min2 rq_minS (t := qMinA) fun us μ P h => by
      unfold qMinA at h
      split at h
      · exact .inl ⟨_, _, rfl, h⟩
      · exact .inr h) hg hm boot_min' ha (by decide) (by decide) he hpl
def w_max (hc : X.calm = true) (hg : Gl X "max") (hm : X.mg "max" = none) (ha : WAr X (e :: es) t w) (he : starEach (e :: es) X.env = (false, eval e X.env) :: starEach es X.env := by rfl) (hpl : (backTo pos (starEach es X.env)).any (·.1) = false := by rfl) := show WE X (.Call (.Name "max" p) (e :: es) [] pos) _ (wQ qMax2 w) from w_qb (call_max2 hc) rq_max2 hg hm boot_max' ha (by decide) (by decide) he hpl
def w_sorted (hc : X.calm = true) (hg : Gl X "sorted") (hm : X.mg "sorted" = none) (ha : WAr X (e :: es) t w) (he : starEach (e :: es) X.env = (false, eval e X.env) :: starEach es X.env := by rfl) (hpl : (backTo pos (starEach es X.env)).any (·.1) = false := by rfl) := show WE X (.Call (.Name "sorted" p) (e :: es) [] pos) _ (wQ qSortA w) from w_qb (or_Q cr_sortedS (call_sortedD hc)) (rq_or rq_sortS rq_sortD (t := qSortA) fun us μ P h => by
      unfold qSortA at h
      split at h
      · split at h
        · exact .inr h
        · exact .inl h
      · exact h.elim) hg hm boot_sorted ha (by decide) (by decide) he hpl
def w_intc (hg : Gl X "int") (hm : X.mg "int" = none) (ha : WAr X (e :: es) t w) (he : starEach (e :: es) X.env = (false, eval e X.env) :: starEach es X.env := by rfl) (hpl : (backTo pos (starEach es X.env)).any (·.1) = false := by rfl) := show WE X (.Call (.Name "int" p) (e :: es) [] pos) _ (wQ qInt w) from w_qt call_int1 rq_int hg hm boot_int' ha (by decide) (by decide) he hpl
def w_strc (hg : Gl X "str") (hm : X.mg "str" = none) (ha : WAr X (e :: es) t w) (he : starEach (e :: es) X.env = (false, eval e X.env) :: starEach es X.env := by rfl) (hpl : (backTo pos (starEach es X.env)).any (·.1) = false := by rfl) := show WE X (.Call (.Name "str" p) (e :: es) [] pos) _ (wQ qStr w) from w_qt call_str_int rq_str hg hm boot_str' ha (by decide) (by decide) he hpl
def w_listc (hg : Gl X "list") (hm : X.mg "list" = none) (ha : WAr X (e :: es) t w) (he : starEach (e :: es) X.env = (false, eval e X.env) :: starEach es X.env := by rfl) (hpl : (backTo pos (starEach es X.env)).any (·.1) = false := by rfl) := show WE X (.Call (.Name "list" p) (e :: es) [] pos) _ (wQ qList w) from w_qt call_list_of rq_list hg hm boot_list' ha (by decide) (by decide) he hpl
def w_listcM (hg : Gl X "list") (hm : X.mg "list" = none) (ha : WAr X (e :: es) t w) (he : starEach (e :: es) X.env = (false, eval e X.env) :: starEach es X.env := by rfl) (hpl : (backTo pos (starEach es X.env)).any (·.1) = false := by rfl) := show WE X (.Call (.Name "list" p) (e :: es) [] pos) _ (wQ qListM w) from w_qt call_list_of rq_listM hg hm boot_list' ha (by decide) (by decide) he hpl
def w_tuplec (hg : Gl X "tuple") (hm : X.mg "tuple" = none) (ha : WAr X (e :: es) t w) (he : starEach (e :: es) X.env = (false, eval e X.env) :: starEach es X.env := by rfl) (hpl : (backTo pos (starEach es X.env)).any (·.1) = false := by rfl) := show WE X (.Call (.Name "tuple" p) (e :: es) [] pos) _ (wQ qTuple w) from w_qt call_tuple_of rq_tuple hg hm boot_tuple' ha (by decide) (by decide) he hpl
end
/-! ### methods -/
def mPopA : WM := mPop
def mExtL : WM := fun u vs μ P => ∃ (a b : Addr) (us : List U) (ws : List U), u = .r a ∧ vs = [.r b] ∧ μ a = some (.lst us) ∧ μ b = some (.lst ws) ∧ us.length + ws.length ≤ sizeLine ∧ P (.d .none) (put μ a (.lst (us ++ ws)))
def mExtF : WM := fun u vs μ P => ∃ (a : Addr) (us : List U) (ds : List PyData), u = .r a ∧ vs = [.d (.list ds)] ∧ μ a = some (.lst us) ∧ us.length + ds.length ≤ sizeLine ∧ P (.d .none) (put μ a (.lst (us ++ ds.map .d)))
def mExtend : WM := fun u vs μ P => match vs with
  | [.d (.tuple _)] => mExtendT u vs μ P
  | _ => False
section
variable {K : Fg} {X : Cx} {pos apos cpos p : Pos} {o e : Expr} {es : List Expr} {to te : TE} {wo we : WX} {t : TA} {w : WL}
def w_append (ho : WE X o to wo) (ha : WAr X [e] t w)
    (hbase : attributeBase o "append" X.env (eval o X.env) = eval o X.env := by rfl)
    (hfew : ((backTo cpos (starEach [e] X.env)).all (fun x => !x.1) && (backToKw cpos (keywordEach [] X.env)).all (fun x => x.1.isSome)
      && decide (([e] : List Expr).length + ([] : List Keyword).length + (if ([] : List Keyword).isEmpty then 0 else 1) < 30)) = true := by rfl)
    (hline : (apos.endLine == cpos.line) = true := by rfl) (hs : starEach [e] X.env = (false, eval e X.env) :: starEach [] X.env := by rfl) (hplain : (backTo cpos (starEach [] X.env)).any (·.1) = false := by rfl) := show WE X (.Call (.Attribute o "append" apos) [e] [] cpos) _ (wML mAppend wo w) from w_bm PySem.F.slot_list_append PySem.F.type_list_append mt_append rm_append ho ha hbase hfew hline hs hplain
def w_extend (ho : WE X o to wo) (ha : WAr X [e] t w)
    (hbase : attributeBase o "extend" X.env (eval o X.env) = eval o X.env := by rfl)
    (hfew : ((backTo cpos (starEach [e] X.env)).all (fun x => !x.1) && (backToKw cpos (keywordEach [] X.env)).all (fun x => x.1.isSome)
      && decide (([e] : List Expr).length + ([] : List Keyword).length + (if ([] : List Keyword).isEmpty then 0 else 1) < 30)) = true := by rfl)
    (hline : (apos.endLine == cpos.line) = true := by rfl) (hs : starEach [e] X.env = (false, eval e X.env) :: starEach [] X.env := by rfl) (hplain : (backTo cpos (starEach [] X.env)).any (·.1) = false := by rfl) := show WE X (.Call (.Attribute o "extend" apos) [e] [] cpos) _ (wML mExtend wo w) from w_bm PySem.F.slot_list_extend PySem.F.type_list_extend (MtR.or mt_extT mt_extT) (rm_or rm_extT rm_extT (t := mExtend) fun u us μ P h => by
      unfold mExtend at h
      split at h
      · exact .inl h
      · exact h.elim) ho ha hbase hfew hline hs hplain
def w_popAt (ho : WE X o to wo) (ha : WAr X [e] t w)
    (hbase : attributeBase o "pop" X.env (eval o X.env) = eval o X.env := by rfl)
    (hfew : ((backTo cpos (starEach [e] X.env)).all (fun x => !x.1) && (backToKw cpos (keywordEach [] X.env)).all (fun x => x.1.isSome)
      && decide (([e] : List Expr).length + ([] : List Keyword).length + (if ([] : List Keyword).isEmpty then 0 else 1) < 30)) = true := by rfl)
    (hline : (apos.endLine == cpos.line) = true := by rfl) (hs : starEach [e] X.env = (false, eval e X.env) :: starEach [] X.env := by rfl) (hplain : (backTo cpos (starEach [] X.env)).any (·.1) = false := by rfl) := show WE X (.Call (.Attribute o "pop" apos) [e] [] cpos) _ (wML mPopAt wo w) from w_bm PySem.F.slot_list_pop PySem.F.type_list_pop mt_popAt rm_popAt ho ha hbase hfew hline hs hplain
def w_pop (ho : WE X o to wo) (hbase : attributeBase o "pop" X.env (eval o X.env) = eval o X.env := by rfl) (hline : (apos.endLine == cpos.line) = true := by rfl) := show WE X (.Call (.Attribute o "pop" apos) [] [] cpos) _ (wML mPop wo wNil) from w_bm0 PySem.F.slot_list_pop PySem.F.type_list_pop mt_pop rm_pop ho hbase hline
def w_reverse (ho : WE X o to wo) (hbase : attributeBase o "reverse" X.env (eval o X.env) = eval o X.env := by rfl) (hline : (apos.endLine == cpos.line) = true := by rfl) := show WE X (.Call (.Attribute o "reverse" apos) [] [] cpos) _ (wML mReverse wo wNil) from w_bm0 PySem.F.slot_list_reverse PySem.F.type_list_reverse mt_reverse rm_reverse ho hbase hline
end
/-! ### slices of lists, tuples -/
def wSl (w : WX) (l h : WO) : WX := fun ρ μ P => w ρ μ fun u μ1 => l ρ μ1 fun lo μ2 => h ρ μ2 fun hi μ3 => match u with
  | .d (.tuple ds) => P (.d (.tuple (cutL ds lo hi))) μ3
  | u => ∃ ds : List PyData, listU μ3 u = some (ds.map U.d) ∧ P (.d (.list (cutL ds lo hi))) μ3
section
variable {K : Fg} {X : Cx} {pos p2 : Pos} {e : Expr} {lo hi : Option Expr} {te : TE} {we : WX} {tl th : TO} {wl wh : WO}
theorem re_sl (h : RE K te we) (hl : RPt K tl wl) (hh : RPt K th wh) : RE K (tSl (fun x lo hi H Q => rSlL K x lo hi H Q ∨ rSlA K x lo hi H Q) te tl th) (wSl we wl wh) := fun F G H μ σ ρ P Q S w q => h F G H μ σ ρ _ _ S w fun v u G1 H1 μ1 e1 S1 r1 p1 =>
  hl F G1 H1 μ1 σ ρ _ _ (S.mono e1 S1) p1 fun lo G2 H2 μ2 e2 S2 p2 => hh F G2 H2 μ2 σ ρ _ _ (S.mono (e1.trans e2) S2) p2 fun hi G3 H3 μ3 e3 S3 p3 => by
    by_cases ht : ∃ ds, u = .d (.tuple ds)
    · obtain ⟨ds, rfl⟩ := ht
      have p3 : P (.d (.tuple (cutL ds lo hi))) μ3 := p3
      have r3 : Ru K G3 v (.d (.tuple ds)) := (r1.mono e2).mono e3
      obtain ⟨a, vs, rfl, h1, h2⟩ := rp_tup r3
      have hl := h2.length
      refine .inr ⟨a, vs, rfl, h1.sq S3.sub, fun hw => ?_, fun _ l hl => ?_⟩
      · rw [hl] at hw
        rw [cut_all ds lo hi hw] at p3
        exact q (.ref a) (.d (.tuple ds)) _ _ μ3 ((e1.trans e2).trans e3) S3 r3 p3
      · obtain ⟨e4, S4⟩ := S3.newG (o := .tup (cutV vs lo hi)) hl
        have r4 := rus_cut lo hi (rus_d h2)
        rw [cut_map] at r4
        exact q (.ref l) (.d (.tuple (cutL ds lo hi))) _ _ μ3 (((e1.trans e2).trans e3).trans e4) S4 (Rp.tup (.inl upd_same) ((d_rus r4).mono e4)) p3
    · have p3 : ∃ ds : List PyData, listU μ3 u = some (ds.map U.d) ∧ P (.d (.list (cutL ds lo hi))) μ3 := by
        revert p3
        cases u with
        | d z =>
          cases z with
          | tuple l => exact fun _ => absurd ⟨l, rfl⟩ ht
          | _ => exact fun h => h
        | r a => exact fun h => h
      obtain ⟨ds, hd, p3⟩ := p3
      obtain ⟨a, vs, rfl, h1, h2⟩ := listU_ok S3 ((r1.mono e2).mono e3) hd
      refine .inl ⟨a, vs, rfl, h1, fun l hl => ?_⟩
      obtain ⟨e4, S4⟩ := S3.newG (o := .lst (cutV vs lo hi)) hl
      have r4 := rus_cut lo hi h2
      rw [cut_map] at r4
      exact q (.ref l) (.d (.list (cutL ds lo hi))) _ _ μ3 (((e1.trans e2).trans e3).trans e4) S4 (Rp.lst (SqL.of upd_same) ((d_rus r4).mono e4)) p3
def w_sl (h : WE X e te we) (hl : WPo X lo tl wl) (hh : WPo X hi th wh) := show WE X (.Subscript e (.Slice lo hi none p2) pos) _ (wSl we wl wh) from ⟨pe_slice (SlR.or sl_list sl_tupA) h.pe hl.po hh.po, re_sl h.re hl.rp hh.rp⟩
end

/-! ### comprehensions with one place -/
section
variable {X : Cx} {elt tg iter : Expr} {ifs : List Expr} {scope : Scope} {pos : Pos} {wi : TI} {wj : WIt} {g : TG} {wg : WTg} {tt : TT} {wt : WB} {te : TE} {we : WX}
theorem w_lc1 (v : Str) (k : Nat) (hc : X.calm = true) (hN : X.N.Nodup) (hi : WI X tg iter wi wj) (ok : BlkOk X.N X.env.scope scope [(v, k)]) (go : GOnly g [k]) (_ : WG (X.blk X.s_0 X.H_0 scope (compEnvC scope [] 0 X.env) []) tg g wg) (_ : WTs (X.blk X.s_0 X.H_0 scope (compEnvC scope [] 0 X.env) []) ifs tt wt) (_ : WE (X.blk X.s_0 X.H_0 scope (compEnvC scope [] 0 X.env) []) elt te we)
    (hg : ∀ (s : Shared) (H : Hp) (C : Addr) (cl : List (Str × Addr)) (fp : List Addr), WG (X.blk s H scope (compEnvC scope cl C X.env) fp) tg g wg) (ht : ∀ (s : Shared) (H : Hp) (C : Addr) (cl : List (Str × Addr)) (fp : List Addr), WTs (X.blk s H scope (compEnvC scope cl C X.env) fp) ifs tt wt)
    (he : ∀ (s : Shared) (H : Hp) (C : Addr) (cl : List (Str × Addr)) (fp : List Addr), WE (X.blk s H scope (compEnvC scope cl C X.env) fp) elt te we) (hs : ∀ x, foldedSetIterable iter X.env x = pure x := by intro _; rfl) :
    WE X (.ListComp elt [⟨tg, iter, ifs, 0⟩] scope pos) (tLc wi g tt te [k]) (wLc wj [k] wg wt we) := w_lc (own := [(v, k)]) hc hN hi ok go hg ht he hs
theorem w_setLc1 (i : Nat) (v : Str) (k : Nat) {y : Str} {py spos : Pos} (hc : X.calm = true) (hN : X.N.Nodup) (hsw : swapsWith (.ListComp elt [⟨tg, iter, ifs, 0⟩] scope pos) (some (.Name y py)) spos.line X.env = pure true) (hi : WI X tg iter wi wj) (ok : BlkOk X.N X.env.scope scope [(v, k)]) (go : GOnly g [k]) (_ : WG (X.blk X.s_0 X.H_0 scope (compEnvC scope [] 0 X.env) []) tg g wg) (_ : WTs (X.blk X.s_0 X.H_0 scope (compEnvC scope [] 0 X.env) []) ifs tt wt) (_ : WE (X.blk X.s_0 X.H_0 scope (compEnvC scope [] 0 X.env) []) elt te we)
    (hg : ∀ (s : Shared) (H : Hp) (C : Addr) (cl : List (Str × Addr)) (fp : List Addr), WG (X.blk s H scope (compEnvC scope cl C X.env) fp) tg g wg) (ht : ∀ (s : Shared) (H : Hp) (C : Addr) (cl : List (Str × Addr)) (fp : List Addr), WTs (X.blk s H scope (compEnvC scope cl C X.env) fp) ifs tt wt)
    (he : ∀ (s : Shared) (H : Hp) (C : Addr) (cl : List (Str × Addr)) (fp : List Addr), WE (X.blk s H scope (compEnvC scope cl C X.env) fp) elt te we) (hy : X.N[i]? = some y := by rfl) (hyl : X.env.scope.names.lookup y = some .local := by rfl) (hs : ∀ x, foldedSetIterable iter X.env x = pure x := by intro _; rfl) :
    WS X (.Assign [.Name y py] (.ListComp elt [⟨tg, iter, ifs, 0⟩] scope pos) spos) (tAsg (tLc wi g tt te [k]) (gName i)) (wAsg (wLc wj [k] wg wt we) (gN i)) := w_setLc i (own := [(v, k)]) hc hN hsw hi ok go hg ht he hy hyl hs
theorem w_lcM1 (v : Str) (k : Nat) (hc : X.calm = true) (hN : X.N.Nodup) (hi : WI X tg iter wi wj) (ok : BlkOk X.N X.env.scope scope [(v, k)]) (go : GOnly g [k]) (_ : WG (X.blk X.s_0 X.H_0 scope (compEnvC scope [] 0 X.env) []) tg g wg) (_ : WTs (X.blk X.s_0 X.H_0 scope (compEnvC scope [] 0 X.env) []) ifs tt wt) (_ : WE (X.blk X.s_0 X.H_0 scope (compEnvC scope [] 0 X.env) []) elt te we)
    (hg : ∀ (s : Shared) (H : Hp) (C : Addr) (cl : List (Str × Addr)) (fp : List Addr), WG (X.blk s H scope (compEnvC scope cl C X.env) fp) tg g wg) (ht : ∀ (s : Shared) (H : Hp) (C : Addr) (cl : List (Str × Addr)) (fp : List Addr), WTs (X.blk s H scope (compEnvC scope cl C X.env) fp) ifs tt wt)
    (he : ∀ (s : Shared) (H : Hp) (C : Addr) (cl : List (Str × Addr)) (fp : List Addr), WE (X.blk s H scope (compEnvC scope cl C X.env) fp) elt te we) (hs : ∀ x, foldedSetIterable iter X.env x = pure x := by intro _; rfl) :
    WE X (.ListComp elt [⟨tg, iter, ifs, 0⟩] scope pos) (tLc wi g tt te [k]) (wLcM wj [k] wg wt we) := w_lcM (own := [(v, k)]) hc hN hi ok go hg ht he hs
theorem w_setLcM1 (i : Nat) (v : Str) (k : Nat) {y : Str} {py spos : Pos} (hc : X.calm = true) (hN : X.N.Nodup) (hsw : swapsWith (.ListComp elt [⟨tg, iter, ifs, 0⟩] scope pos) (some (.Name y py)) spos.line X.env = pure true) (hi : WI X tg iter wi wj) (ok : BlkOk X.N X.env.scope scope [(v, k)]) (go : GOnly g [k]) (_ : WG (X.blk X.s_0 X.H_0 scope (compEnvC scope [] 0 X.env) []) tg g wg) (_ : WTs (X.blk X.s_0 X.H_0 scope (compEnvC scope [] 0 X.env) []) ifs tt wt) (_ : WE (X.blk X.s_0 X.H_0 scope (compEnvC scope [] 0 X.env) []) elt te we)
    (hg : ∀ (s : Shared) (H : Hp) (C : Addr) (cl : List (Str × Addr)) (fp : List Addr), WG (X.blk s H scope (compEnvC scope cl C X.env) fp) tg g wg) (ht : ∀ (s : Shared) (H : Hp) (C : Addr) (cl : List (Str × Addr)) (fp : List Addr), WTs (X.blk s H scope (compEnvC scope cl C X.env) fp) ifs tt wt)
    (he : ∀ (s : Shared) (H : Hp) (C : Addr) (cl : List (Str × Addr)) (fp : List Addr), WE (X.blk s H scope (compEnvC scope cl C X.env) fp) elt te we) (hy : X.N[i]? = some y := by rfl) (hyl : X.env.scope.names.lookup y = some .local := by rfl) (hs : ∀ x, foldedSetIterable iter X.env x = pure x := by intro _; rfl) :
    WS X (.Assign [.Name y py] (.ListComp elt [⟨tg, iter, ifs, 0⟩] scope pos) spos) (tAsg (tLc wi g tt te [k]) (gName i)) (wAsg (wLcM wj [k] wg wt we) (gN i)) := w_setLcM i (own := [(v, k)]) hc hN hsw hi ok go hg ht he hy hyl hs
end

/-! ### the scope that stands in a comprehension -/
def relS (sc S : Scope) : Scope := { sc with names := sc.names.map fun (n, k) => if (k == NameKind.free && S.kind == .function && S.names.lookup n == some .cell) then (n, NameKind.cell) else (n, k) }
theorem relS_eq (sc : Scope) (env : Env) : relabel sc env = relS sc env.scope := rfl
/-! ### comprehensions with several places -/
theorem gso_consN {i : Nat} {ts : TGs} {vs : List Nat} (h : i ∈ vs) (t : GsOnly ts vs) : GsOnly (gCons (gName i) ts) vs := fun xs σ H Q ⟨v, r, e, q⟩ => by
  have e0 : wipe (σ.set i (some v)) vs = wipe σ vs := (go_name h v σ H (fun σ2 _ => wipe σ2 vs = wipe (σ.set i (some v)) vs) rfl).1
  have q := t r (σ.set i (some v)) H Q q
  rw [e0] at q
  exact ⟨v, r, e, q⟩
theorem go_tup {K : Fg} {n : Nat} {ts : TGs} {vs : List Nat} (t : GsOnly ts vs) : GOnly (gTup K n ts) vs := fun v σ H Q ⟨a, xs, e, s, l, q⟩ => ⟨a, xs, e, s, l, t xs σ H Q q⟩
section
variable {X : Cx} {elt tg iter : Expr} {ifs : List Expr} {scope : Scope} {pos : Pos} {wi : TI} {wj : WIt} {g : TG} {wg : WTg} {tt : TT} {wt : WB} {te : TE} {we : WX}
theorem w_lcN (own : List (Str × Nat)) (vs : List Nat) (hv : own.map (·.2) = vs) (hc : X.calm = true) (hN : X.N.Nodup) (hi : WI X tg iter wi wj) (ok : BlkOk X.N X.env.scope scope own) (go : GOnly g vs) (_ : WG (X.blk X.s_0 X.H_0 scope (compEnvC scope [] 0 X.env) []) tg g wg) (_ : WTs (X.blk X.s_0 X.H_0 scope (compEnvC scope [] 0 X.env) []) ifs tt wt) (_ : WE (X.blk X.s_0 X.H_0 scope (compEnvC scope [] 0 X.env) []) elt te we)
    (hg : ∀ (s : Shared) (H : Hp) (C : Addr) (cl : List (Str × Addr)) (fp : List Addr), WG (X.blk s H scope (compEnvC scope cl C X.env) fp) tg g wg) (ht : ∀ (s : Shared) (H : Hp) (C : Addr) (cl : List (Str × Addr)) (fp : List Addr), WTs (X.blk s H scope (compEnvC scope cl C X.env) fp) ifs tt wt)
    (he : ∀ (s : Shared) (H : Hp) (C : Addr) (cl : List (Str × Addr)) (fp : List Addr), WE (X.blk s H scope (compEnvC scope cl C X.env) fp) elt te we) (hs : ∀ x, foldedSetIterable iter X.env x = pure x := by intro _; rfl) :
    WE X (.ListComp elt [⟨tg, iter, ifs, 0⟩] scope pos) (tLc wi g tt te vs) (wLc wj vs wg wt we) := by
  subst hv
  exact w_lc (own := own) hc hN hi ok go hg ht he hs
theorem w_setLcN (i : Nat) (own : List (Str × Nat)) (vs : List Nat) (hv : own.map (·.2) = vs) {y : Str} {py spos : Pos} (hc : X.calm = true) (hN : X.N.Nodup) (hsw : swapsWith (.ListComp elt [⟨tg, iter, ifs, 0⟩] scope pos) (some (.Name y py)) spos.line X.env = pure true) (hi : WI X tg iter wi wj) (ok : BlkOk X.N X.env.scope scope own) (go : GOnly g vs) (_ : WG (X.blk X.s_0 X.H_0 scope (compEnvC scope [] 0 X.env) []) tg g wg) (_ : WTs (X.blk X.s_0 X.H_0 scope (compEnvC scope [] 0 X.env) []) ifs tt wt) (_ : WE (X.blk X.s_0 X.H_0 scope (compEnvC scope [] 0 X.env) []) elt te we)
    (hg : ∀ (s : Shared) (H : Hp) (C : Addr) (cl : List (Str × Addr)) (fp : List Addr), WG (X.blk s H scope (compEnvC scope cl C X.env) fp) tg g wg) (ht : ∀ (s : Shared) (H : Hp) (C : Addr) (cl : List (Str × Addr)) (fp : List Addr), WTs (X.blk s H scope (compEnvC scope cl C X.env) fp) ifs tt wt)
    (he : ∀ (s : Shared) (H : Hp) (C : Addr) (cl : List (Str × Addr)) (fp : List Addr), WE (X.blk s H scope (compEnvC scope cl C X.env) fp) elt te we) (hy : X.N[i]? = some y := by rfl) (hyl : X.env.scope.names.lookup y = some .local := by rfl) (hs : ∀ x, foldedSetIterable iter X.env x = pure x := by intro _; rfl) :
    WS X (.Assign [.Name y py] (.ListComp elt [⟨tg, iter, ifs, 0⟩] scope pos) spos) (tAsg (tLc wi g tt te vs) (gName i)) (wAsg (wLc wj vs wg wt we) (gN i)) := by
  subst hv
  exact w_setLc i (own := own) hc hN hsw hi ok go hg ht he hy hyl hs
theorem w_lcMN (own : List (Str × Nat)) (vs : List Nat) (hv : own.map (·.2) = vs) (hc : X.calm = true) (hN : X.N.Nodup) (hi : WI X tg iter wi wj) (ok : BlkOk X.N X.env.scope scope own) (go : GOnly g vs) (_ : WG (X.blk X.s_0 X.H_0 scope (compEnvC scope [] 0 X.env) []) tg g wg) (_ : WTs (X.blk X.s_0 X.H_0 scope (compEnvC scope [] 0 X.env) []) ifs tt wt) (_ : WE (X.blk X.s_0 X.H_0 scope (compEnvC scope [] 0 X.env) []) elt te we)
    (hg : ∀ (s : Shared) (H : Hp) (C : Addr) (cl : List (Str × Addr)) (fp : List Addr), WG (X.blk s H scope (compEnvC scope cl C X.env) fp) tg g wg) (ht : ∀ (s : Shared) (H : Hp) (C : Addr) (cl : List (Str × Addr)) (fp : List Addr), WTs (X.blk s H scope (compEnvC scope cl C X.env) fp) ifs tt wt)
    (he : ∀ (s : Shared) (H : Hp) (C : Addr) (cl : List (Str × Addr)) (fp : List Addr), WE (X.blk s H scope (compEnvC scope cl C X.env) fp) elt te we) (hs : ∀ x, foldedSetIterable iter X.env x = pure x := by intro _; rfl) :
    WE X (.ListComp elt [⟨tg, iter, ifs, 0⟩] scope pos) (tLc wi g tt te vs) (wLcM wj vs wg wt we) := by
  subst hv
  exact w_lcM (own := own) hc hN hi ok go hg ht he hs
theorem w_setLcMN (i : Nat) (own : List (Str × Nat)) (vs : List Nat) (hv : own.map (·.2) = vs) {y : Str} {py spos : Pos} (hc : X.calm = true) (hN : X.N.Nodup) (hsw : swapsWith (.ListComp elt [⟨tg, iter, ifs, 0⟩] scope pos) (some (.Name y py)) spos.line X.env = pure true) (hi : WI X tg iter wi wj) (ok : BlkOk X.N X.env.scope scope own) (go : GOnly g vs) (_ : WG (X.blk X.s_0 X.H_0 scope (compEnvC scope [] 0 X.env) []) tg g wg) (_ : WTs (X.blk X.s_0 X.H_0 scope (compEnvC scope [] 0 X.env) []) ifs tt wt) (_ : WE (X.blk X.s_0 X.H_0 scope (compEnvC scope [] 0 X.env) []) elt te we)
    (hg : ∀ (s : Shared) (H : Hp) (C : Addr) (cl : List (Str × Addr)) (fp : List Addr), WG (X.blk s H scope (compEnvC scope cl C X.env) fp) tg g wg) (ht : ∀ (s : Shared) (H : Hp) (C : Addr) (cl : List (Str × Addr)) (fp : List Addr), WTs (X.blk s H scope (compEnvC scope cl C X.env) fp) ifs tt wt)
    (he : ∀ (s : Shared) (H : Hp) (C : Addr) (cl : List (Str × Addr)) (fp : List Addr), WE (X.blk s H scope (compEnvC scope cl C X.env) fp) elt te we) (hy : X.N[i]? = some y := by rfl) (hyl : X.env.scope.names.lookup y = some .local := by rfl) (hs : ∀ x, foldedSetIterable iter X.env x = pure x := by intro _; rfl) :
    WS X (.Assign [.Name y py] (.ListComp elt [⟨tg, iter, ifs, 0⟩] scope pos) spos) (tAsg (tLc wi g tt te vs) (gName i)) (wAsg (wLcM wj vs wg wt we) (gN i)) := by
  subst hv
  exact w_setLcM i (own := own) hc hN hsw hi ok go hg ht he hy hyl hs
end
/-! ### a def of the module under its name -/
structure Dn (K : Fg) (mg : Str → Option Value) (x : Str) (s : Stmt) : Prop where
  ex : ∃ (f : Addr) (fd : FuncData), FunD K x x (defArgs s) (defBody s) (defScope s) [] [] f fd ∧ mg x = some (.ref f)
theorem Dn.zero {P : Program} {w : World} {K : Fg} {mg : Str → Option Value} {base : Heap} {x : Str} {s : Stmt} {ps : List Str} (D : Dn K mg x s) (b : ∀ {f : Addr} {fd : FuncData}, FunD K x x (defArgs s) (defBody s) (defScope s) [] [] f fd → Binds K fd ps []) :
    C8.Cal P w K mg base 0 x (sp3 K fun _ _ _ => False) [] := by
  obtain ⟨f, fd, F, h⟩ := D.ex
  refine ⟨f, fd, ps, [], ⟨fun vs H Q E ⟨_, _, _, _, _, _, _, z, _⟩ => z.elim, fun A outer s H args us vs Q E _ _ _ _ ⟨_, _, _, _, _, _, _, z, _⟩ => z.elim⟩, h, F.kp, b F, .nil⟩

/-- the ends of a def's body -/
def E3 (μ : Mu) (Q : XP) : End3 := { nx := fun _ μ' => ∃ u2 μ2, Gv μ (.d .none) μ' u2 μ2 ∧ Q u2 μ2, rt := fun u μ' => ∃ u2 μ2, Gv μ u μ' u2 μ2 ∧ Q u2 μ2 }
theorem rtE {μ μ' : Mu} {Q : XP} {u : U} (q : Q u μ') : (E3 μ Q).rt u μ' := ⟨u, μ', .rfl, q⟩
theorem rtF {μ μ' : Mu} {Q : XP} {a : Addr} {ds : List PyData} (h : μ' a = some (.lst (ds.map U.d))) (q : Q (.d (.list ds)) (del μ' a)) : (E3 μ Q).rt (.r a) μ' := ⟨_, _, .frz h, q⟩
theorem rtD {μ μ' : Mu} {Q : XP} {u : U} (a : Addr) (h : (E3 μ Q).rt u (del μ' a)) : (E3 μ Q).rt u μ' := by
  obtain ⟨u2, μ2, g, q⟩ := h
  exact ⟨u2, μ2, .drop g, q⟩
theorem rtH {μ μ' : Mu} {Q : XP} {u : U} {a : Addr} {ns : List Int} {i r t : Int} (h : μ' a = some (.lst [.d (.list (ns.map .int)), .d (.int i), .d (.int r), .d (.int t)])) (h1 : ns.length ≤ 63) (h2 : ∀ x ∈ ns, 0 ≤ x) (h3 : 0 ≤ i) (h4 : i ≤ 63) (h5 : 0 ≤ r) (q : (E3 μ Q).rt u (put μ' a .hand)) : (E3 μ Q).rt u μ' := by
  obtain ⟨u2, μ2, g, q⟩ := q
  exact ⟨u2, μ2, .hand h h1 h2 h3 h4 h5 g, q⟩
theorem nxE {μ μ' : Mu} {ρ : Rho} {Q : XP} (q : Q (.d .none) μ') : (E3 μ Q).nx ρ μ' := ⟨_, μ', .rfl, q⟩

/-! ### the hand opened -/
def wOpen (i : Nat) (w : WSt) : WSt := fun B ρ μ => ∃ a, ρ[i]? = some (some (.r a)) ∧ μ a = some .hand ∧ ∀ (ns : List Int) (j r t : Int), ns.length ≤ 63 → (∀ x ∈ ns, 0 ≤ x) → 0 ≤ j → j ≤ 63 → 0 ≤ r → w B ρ (put μ a (.lst [.d (.list (ns.map .int)), .d (.int j), .d (.int r), .d (.int t)]))
theorem rs_open {K : Fg} {t : TS} {w : WSt} (i : Nat) (h : RS K t w) : RS K t (wOpen i w) := fun F G H μ σ ρ D B S L ⟨a, h1, h2, w⟩ => by
  obtain ⟨ns, j, r, z, l1, l2, l3, l4, l5, S'⟩ := S.st.openHand h2
  exact h F G H _ σ ρ D B ⟨S', S.len, S.sl⟩ L (w ns j r z l1 l2 l3 l4 l5)
theorem w_open {X : Cx} {s : List Stmt} {t : TS} {w : WSt} (i : Nat) (h : WSs X s t w) : WSs X s t (wOpen i w) := ⟨h.ps, rs_open i h.rs⟩

/-! ### loops by an invariant -/
theorem forGo_inv {g : WTg} {t : WSt} {Al : Mu → Prop} {us : List U} {B : End3} {ρ : Rho} {μ : Mu} (I : Nat → Rho → Mu → Prop) (h0 : I 0 ρ μ) (al : ∀ j ρ μ, I j ρ μ → Al μ)
    (step : ∀ (j : Nat) (hj : j < us.length) (ρ : Rho) (μ : Mu) (N : Rho → Mu → Prop), I j ρ μ → (∀ ρ' μ', I (j + 1) ρ' μ' → N ρ' μ') → g us[j] ρ μ fun ρ1 μ1 => t { B with nx := N, ct := N, bk := B.nx } ρ1 μ1)
    (fin : ∀ ρ μ, I us.length ρ μ → B.nx ρ μ) : forGo g t Al us B ρ μ := by
  have key : ∀ (k j : Nat) (ρ : Rho) (μ : Mu), us.length - j = k → j ≤ us.length → I j ρ μ → forGo g t Al (us.drop j) B ρ μ := by
    intro k
    induction k with
    | zero =>
      intro j ρ μ hk hj h
      have e : j = us.length := by omega
      subst e
      rw [List.drop_length]
      exact ⟨al _ _ _ h, fin _ _ h⟩
    | succ k ih =>
      intro j ρ μ hk hj h
      have hj' : j < us.length := by omega
      rw [List.drop_eq_getElem_cons hj']
      exact ⟨al _ _ _ h, step j hj' ρ μ _ h fun ρ' μ' h' => ih (j + 1) ρ' μ' (by omega) hj' h'⟩
  have := key us.length 0 ρ μ (by omega) (Nat.zero_le _) h0
  rwa [List.drop_zero] at this
theorem lcGo_inv {g : WTg} {wt : WB} {we : WX} {Al : Mu → Prop} {us : List U} {ρ : Rho} {μ : Mu} {P : List U → Mu → Prop} (I : Nat → List U → Mu → Prop) (h0 : I 0 [] μ) (al : ∀ j acc μ, I j acc μ → Al μ)
    (step : ∀ (j : Nat) (hj : j < us.length) (acc : List U) (μ : Mu) (N : List U → Mu → Prop), I j acc μ → (∀ acc' μ', I (j + 1) acc' μ' → N acc' μ') → g us[j] ρ μ fun ρ1 μ1 => wt ρ1 μ1 fun b μ2 => if b = true then we ρ1 μ2 fun y μ3 => acc.length < sizeLine ∧ N (acc ++ [y]) μ3 else N acc μ2)
    (fin : ∀ acc μ, I us.length acc μ → P acc μ) : lcGo g wt we Al us [] ρ μ P := by
  have key : ∀ (k j : Nat) (acc : List U) (μ : Mu), us.length - j = k → j ≤ us.length → I j acc μ → lcGo g wt we Al (us.drop j) acc ρ μ P := by
    intro k
    induction k with
    | zero =>
      intro j acc μ hk hj h
      have e : j = us.length := by omega
      subst e
      rw [List.drop_length]
      exact ⟨al _ _ _ h, fin _ _ h⟩
    | succ k ih =>
      intro j acc μ hk hj h
      have hj' : j < us.length := by omega
      rw [List.drop_eq_getElem_cons hj']
      exact ⟨al _ _ _ h, step j hj' acc μ _ h fun acc' μ' h' => ih (j + 1) acc' μ' (by omega) hj' h'⟩
  have := key us.length 0 [] μ (by omega) (Nat.zero_le _) h0
  rwa [List.drop_zero] at this

section
variable {P : Program} {w : World} {K : Fg} {mg : Str → Option Value} {base : Heap}
theorem fn3F {x : Str} {params : Arguments} {body : List Stmt} {scope : Scope} {f : Addr} {fd : FuncData} {N ps : List Str} {k : Nat} {s : WF} (Fd : FunD K x x params body scope [] [] f fd) (S : FnScope N ps scope)
    (len : ∀ us μ Q, s us μ Q → us.length = ps.length)
    (hbody : ∀ (cdv : Value) (A : Around) (outer : List Env) (sh : Shared) (H : Hp) (E : XK), Room k (A.deeper (envOfC x scope sh.heap.objs.size f cdv)) →
      ∃ t wt, WSs (cxOf CX0 P w K mg base N x scope f cdv A outer sh H E).nox body t wt ∧ ∀ us μ Q, s us μ Q → wt { nx := fun _ μ' => ∃ u2 μ2, Gv μ (.d .none) μ' u2 μ2 ∧ Q u2 μ2, rt := fun u μ' => ∃ u2 μ2, Gv μ u μ' u2 μ2 ∧ Q u2 μ2 } (start3 N us) μ) :
    FnOk P w K mg base C8.CX0 (k + 1) f fd ps (sp3 K s) := by
  refine FunD.ok Fd S (fun vs H Q E h => ?_) (fun cdv A outer sh H vs Q E hr h => ?_)
  · obtain ⟨us, F, G, μ, P, S, r, hs, q⟩ := h
    rw [r.length]
    exact len _ _ _ hs
  · obtain ⟨us, F, G, μ, Pz, S3, r, hs, q⟩ := h
    obtain ⟨t, wt, hw, hq⟩ := hbody cdv A outer sh H E hr
    refine ⟨t, PSs.nox hw.ps, hw.rs F G H μ (L2.start N vs) (start3 N us) _ _ (start_sim S3 r) ⟨?_, ?_, ?_, ?_⟩ (hq us μ Pz hs)⟩
    · rintro σ' G' H' ρ' μ' e S' ⟨u2, μ2, g, p⟩
      obtain ⟨G2, e2, S2, r2⟩ := g.go (v := .non) S'.st Rp.non
      exact q .non u2 G2 H' μ2 (e.trans e2) S2 r2 p
    · rintro v u G' H' μ' e S' r' ⟨u2, μ2, g, p⟩
      obtain ⟨G2, e2, S2, r2⟩ := g.go S' r'
      exact q v u2 G2 H' μ2 (e.trans e2) S2 r2 p
    · exact fun _ _ _ _ _ _ _ h => h.elim
    · exact fun _ _ _ _ _ _ _ h => h.elim
end
end L3

/-! sorted of data, a star in a row of parts, a list put behind another -/
namespace L3
open PySem PySem.Spec PyProof.Rows L2
def sortD (ds : List PyData) : List PyData := ds.mergeSort (PySem.W.dataLe false id)
theorem sortD_perm (ds : List PyData) : (sortD ds).Perm ds := List.mergeSort_perm _ _
theorem sortD_short {ds : List PyData} (h : ds.length ≤ 1) : sortD ds = ds := by
  match ds, h with
  | [], _ => unfold sortD; exact List.mergeSort_nil
  | [x], _ => exact List.mergeSort_singleton _
/-! ### alike data sort to one list -/
section
open PySem.W
mutual
theorem toks_inj : ∀ (x y : PyData) (l m : List (Int ⊕ List Nat)), alike x y = true → keyToks x ++ l = keyToks y ++ m → x = y ∧ l = m
  | .none, y, l, m, h, e => by
    cases y <;> simp [alike] at h
    simpa [keyToks] using e
  | .bool b, y, l, m, h, e => by
    cases y <;> simp [alike] at h
    rename_i c
    cases b <;> cases c <;> simp [keyToks] at e <;> simp [e]
  | .int b, y, l, m, h, e => by
    cases y <;> simp [alike] at h
    simp [keyToks] at e
    simp [e]
  | .str b, y, l, m, h, e => by
    cases y <;> simp [alike] at h
    simp only [keyToks, List.cons_append, List.nil_append, List.cons.injEq, Sum.inr.injEq] at e
    exact ⟨congrArg _ (str_of_cps e.1), e.2⟩
  | .list xs, y, l, m, h, e => by
    cases y <;> simp [alike] at h
    rename_i ys
    simp only [keyToks] at e
    obtain ⟨h1, h2⟩ := toksAll_inj xs ys l m h e
    exact ⟨by rw [h1], h2⟩
  | .tuple xs, y, l, m, h, e => by
    cases y <;> simp [alike] at h
    rename_i ys
    simp only [keyToks] at e
    obtain ⟨h1, h2⟩ := toksAll_inj xs ys l m h e
    exact ⟨by rw [h1], h2⟩
  | .dict _, y, l, m, h, e => by cases y <;> simp [alike] at h
theorem toksAll_inj : ∀ (xs ys : List PyData) (l m : List (Int ⊕ List Nat)), alikeAll xs ys = true → keyToksAll xs ++ l = keyToksAll ys ++ m → xs = ys ∧ l = m
  | [], [], l, m, _, e => by simpa [keyToksAll] using e
  | [], y :: ys, l, m, _, e => by simp [keyToksAll] at e
  | x :: xs, [], l, m, _, e => by simp [keyToksAll] at e
  | x :: xs, y :: ys, l, m, h, e => by
    simp only [alikeAll, Bool.and_eq_true] at h
    simp only [keyToksAll, List.cons_append, List.append_assoc, List.cons.injEq, true_and] at e
    obtain ⟨h1, h2⟩ := toks_inj x y _ _ h.1 e
    obtain ⟨h3, h4⟩ := toksAll_inj xs ys l m h.2 h2
    exact ⟨by rw [h1, h3], h4⟩
end
theorem le_anti {x y : PyData} (h : alike x y = true) (h1 : dataLe false id x y = true) (h2 : dataLe false id y x = true) : x = y := by
  have h1 : (!(listOrd itemOrd).blt (keyToks y) (keyToks x)) = true := h1
  have h2 : (!(listOrd itemOrd).blt (keyToks x) (keyToks y)) = true := h2
  have e := (listOrd itemOrd).total (keyToks x) (keyToks y) (by simpa using h2) (by simpa using h1)
  exact (toks_inj x y [] [] h (by rw [List.append_nil, List.append_nil]; exact e)).1
theorem le_trans' (x y z : PyData) (h1 : dataLe false id x y = true) (h2 : dataLe false id y z = true) : dataLe false id x z = true := by
  have h1 : (!(listOrd itemOrd).blt (keyToks y) (keyToks x)) = true := h1
  have h2 : (!(listOrd itemOrd).blt (keyToks z) (keyToks y)) = true := h2
  show (!(listOrd itemOrd).blt (keyToks z) (keyToks x)) = true
  cases h : (listOrd itemOrd).blt (keyToks z) (keyToks x) with
  | false => rfl
  | true =>
    rcases (listOrd itemOrd).negTrans _ (keyToks y) _ h with k | k
    · rw [k] at h2; cases h2
    · rw [k] at h1; cases h1
theorem le_total' (x y : PyData) : (dataLe false id x y || dataLe false id y x) = true := by
  show ((!(listOrd itemOrd).blt (keyToks y) (keyToks x)) || (!(listOrd itemOrd).blt (keyToks x) (keyToks y))) = true
  cases h : (listOrd itemOrd).blt (keyToks y) (keyToks x) with
  | false => rfl
  | true =>
    cases k : (listOrd itemOrd).blt (keyToks x) (keyToks y) with
    | false => rfl
    | true =>
      have := (listOrd itemOrd).trans _ _ _ h k
      rw [(listOrd itemOrd).irrefl] at this
      cases this
theorem uniq_sorted {α : Type} {r : α → α → Prop} : ∀ {xs ys : List α}, (∀ x ∈ xs, ∀ y ∈ ys, r x y → r y x → x = y) → xs.Pairwise r → ys.Pairwise r → xs.Perm ys → xs = ys
  | [], ys, _, _, _, p => (List.Perm.eq_nil p.symm).symm
  | x :: xs, [], _, _, _, p => absurd p.length_eq (by simp)
  | x :: xs, y :: ys, an, h1, h2, p => by
    have e : x = y := by
      rcases List.mem_cons.mp (p.mem_iff.mp (List.mem_cons_self (a := x) (l := xs))) with e | hx
      · exact e
      · rcases List.mem_cons.mp (p.mem_iff.mpr (List.mem_cons_self (a := y) (l := ys))) with e | hy
        · exact e.symm
        · exact an x (List.mem_cons_self ..) y (List.mem_cons_self ..) ((List.pairwise_cons.mp h1).1 y hy) ((List.pairwise_cons.mp h2).1 x hx)
    subst e
    rw [uniq_sorted (fun a ha b hb => an a (List.mem_cons_of_mem _ ha) b (List.mem_cons_of_mem _ hb)) (List.pairwise_cons.mp h1).2 (List.pairwise_cons.mp h2).2 p.cons_inv]
theorem sortD_eq {as bs : List PyData} (al : AllAlike as) (p : as.Perm bs) : sortD as = sortD bs := by
  have s1 := sortD_perm as
  have s2 := sortD_perm bs
  refine uniq_sorted (r := fun x y => dataLe false id x y = true) (fun x hx y hy h1 h2 => le_anti (al x (s1.mem_iff.mp hx) y (p.mem_iff.mpr (s2.mem_iff.mp hy))) h1 h2) ?_ ?_ ((s1.trans p).trans s2.symm)
  · exact List.pairwise_mergeSort le_trans' le_total' as
  · exact List.pairwise_mergeSort le_trans' le_total' bs
end
end L3

/-! sorted of data, a star in a row of parts, a list put behind another -/
namespace L3
open PySem PySem.Spec PyProof.Rows L2
/-! ### sorted(xs), xs a list of data -/
inductive ZAll (Z : V → PyData → Prop) : List V → List PyData → Prop
  | nil : ZAll Z [] []
  | cons {v : V} {d : PyData} {vs : List V} {ds : List PyData} : Z v d → ZAll Z vs ds → ZAll Z (v :: vs) (d :: ds)
theorem zall_rps {K : Fg} {G : Hp} : ∀ {vs : List V} {ds : List PyData}, ZAll (Rp K G) vs ds → Rps K G vs ds
  | _, _, .nil => .nil
  | _, _, .cons h t => .cons h (zall_rps t)
theorem rps_zall {K : Fg} {G : Hp} : ∀ {vs : List V} {ds : List PyData}, Rps K G vs ds → ZAll (Rp K G) vs ds
  | _, _, .nil => .nil
  | _, _, .cons h t => .cons h (rps_zall t)
theorem zall_len {Z : V → PyData → Prop} : ∀ {vs : List V} {ds : List PyData}, ZAll Z vs ds → vs.length = ds.length
  | _, _, .nil => rfl
  | _, _, .cons _ t => congrArg Nat.succ (zall_len t)
theorem zall_each {Z : V → PyData → Prop} : ∀ {vs : List V} {us : List Value} {ds : List PyData}, Vals vs us → ZAll Z vs ds → PySem.W.EachIs (fun u d => ∃ v, RelV v u ∧ Z v d) us ds
  | _, _, _, .nil, .nil => .nil
  | _, _, _, .cons r t, .cons h s => .cons ⟨_, r, h⟩ (zall_each t s)
theorem each_zall {Z : V → PyData → Prop} : ∀ {us : List Value} {ds : List PyData}, PySem.W.EachIs (fun u d => ∃ v, RelV v u ∧ Z v d) us ds → ∃ vs, Vals vs us ∧ ZAll Z vs ds
  | _, _, .nil => ⟨[], .nil, .nil⟩
  | _, _, .cons ⟨v, r, h⟩ t => by
    obtain ⟨vs, h1, h2⟩ := each_zall t
    exact ⟨v :: vs, .cons r h1, .cons h h2⟩
theorem perm_short {α : Type} : ∀ {l m : List α}, m.length ≤ 1 → l.Perm m → l = m
  | _, [], _, p => List.Perm.eq_nil p
  | _, [x], _, p => List.perm_singleton.mp p
  | _, _ :: _ :: _, h, _ => by simp at h
def rSortT (K : Fg) : List V → Hp → VK → Prop := fun vs H Q => ∃ (a : Addr) (xs : List V) (ds : List PyData) (Z : V → PyData → Prop), vs = [.ref a] ∧ SqL K H a xs ∧ DpAll K H xs ds ∧ ZAll Z xs ds ∧ (ds.length ≤ 1 ∨ PySem.W.AllAlike ds ∧ PySem.W.Sortable ds) ∧ (∀ d ∈ ds, d.depth ≤ 8) ∧
  ∀ ys p, ZAll Z ys (sortD ds) → H p = none → Q (.ref p) (upd H p (.lst ys))
theorem cr_sortedT {X : Cx} (hu : X.A.units + 64 < cLine) : CallR X (.builtin "sorted") (rSortT X.K) := by
  intro pins s σ H vs us Q I r h
  obtain ⟨a, xs, ds, Z, rfl, hs, hd, hz, ho, hdep, q⟩ := h
  obtain ⟨its, rv, hl, hsz⟩ := I.list hs
  rw [Vals.ref1 r]
  have hlen := zall_len hz
  have fin : ∀ (ys : List V) (out : List Value), Vals ys out → ZAll Z ys (sortD ds) → ∃ v H', Inv X pins σ H' { s with heap := PyProof.Rows.sortedAll s.heap its out.toArray } ∧ RelV v (.ref (s.heap.objs.size + 1)) ∧ Q v H' := fun ys out rv2 z2 => by
    obtain ⟨ep, he'⟩ := PyProof.Rows.sortedAll_at s.heap its out.toArray
    have l2 : ys.length ≤ sizeLine := by
      rw [zall_len z2, (sortD_perm ds).length_eq, ← hlen]
      exact hsz
    exact ⟨.ref _, upd H (s.heap.objs.size + 1) (.lst ys), I.laid (t' := s.toks) (fun _ _ => PyProof.Rows.sortedAll_old) (Nat.le_succ _) ⟨l2, out, ep, rv2, he'⟩, rfl, q _ _ z2 (I.hok.fresh (Nat.le_succ _))⟩
  rcases ho with ho | ⟨hal, hso⟩
  · have l1 : its.length ≤ 1 := by rw [← rv.length, hlen]; exact ho
    refine SrtO.sorted_ord (ltv := fun _ _ => false) ⟨fun _ _ h => (by cases h), fun _ _ _ _ _ => rfl⟩ hl.isList (by rw [← rv.length]; exact hsz) (fun h2 => by omega) fun out h1 h2 => ?_
    have e : out = its := perm_short l1 h2.perm
    subst e
    have := fin xs out rv (by rw [sortD_short ho]; exact hz)
    exact this
  · obtain ⟨as, ra⟩ := Dp.readsAll I ds _ _ hd rv
    refine PySem.W.sorted_data (bs := ds) (enc := id) hl.isList (zall_each rv hz) (PySem.W.readsAll_each id (by rw [List.map_id]; exact ra)) (by rw [List.map_id]; exact hal) (by rw [List.map_id]; exact hso) (by rw [← hlen]; exact hsz) (fun d hd => ?_) fun out _ eo => ?_
    · have := hdep d hd
      show _ + 2 + d.depth < _
      omega
    · obtain ⟨ys, h1, h2⟩ := each_zall eo
      exact fin ys out h1 h2
def qSortT : WQ := fun us μ P => ∃ (u : U) (ds : List PyData), us = [u] ∧ listU μ u = some (ds.map U.d) ∧ (ds.length ≤ 1 ∨ PySem.W.AllAlike ds ∧ PySem.W.Sortable ds) ∧ (∀ d ∈ ds, d.depth ≤ 8) ∧ P (.d (.list (sortD ds))) μ
theorem rq_sortT {K : Fg} : RQ K (rSortT K) qSortT := fun F G H μ vs us P Q S r ⟨u, ds, e, hl, ho, hd, p⟩ q => by
  subst e
  obtain ⟨v, rfl, rv⟩ := rus1 r
  obtain ⟨a, xs, rfl, h1, h2⟩ := listU_ok S rv hl
  have h3 : Rps K G xs ds := d_rus h2
  refine ⟨a, xs, ds, Rp K G, rfl, h1, Rps.dp S.sub h3, rps_zall h3, ho, hd, fun ys p' hz hp => ?_⟩
  obtain ⟨e, S'⟩ := S.newG (o := .lst ys) hp
  exact q (.ref p') (.d (.list _)) _ _ μ e S' (Rp.lst (SqL.of upd_same) ((zall_rps hz).mono e)) p
section
variable {K : Fg} {X : Cx} {pos p : Pos} {e : Expr} {es : List Expr} {te : TE} {we : WX} {t : TA} {w : WL}
def w_sortedT (hu : X.A.units + 64 < cLine) (hg : Gl X "sorted") (hm : X.mg "sorted" = none) (ha : WAr X (e :: es) t w) (he : starEach (e :: es) X.env = (false, eval e X.env) :: starEach es X.env := by rfl) (hpl : (backTo pos (starEach es X.env)).any (·.1) = false := by rfl) := show WE X (.Call (.Name "sorted" p) (e :: es) [] pos) _ (wQ qSortT w) from w_qb (cr_sortedT hu) rq_sortT hg hm boot_sorted ha (by decide) (by decide) he hpl
/-! ### a star in a row of parts -/
def wStar (a : WX) (r : WL) : WL := fun ρ μ P => a ρ μ fun x μ1 => ∃ us, itemsU μ1 x = some us ∧ r ρ μ1 fun xs μ2 => P (us ++ xs) μ2
theorem ra_star (h : RE K te we) (k : RA K t w) : RA K (StX.tStar K te t) (wStar we w) := fun F G H μ σ ρ P Q S x q => h F G H μ σ ρ _ _ S x fun v u G1 H1 μ1 e1 S1 r1 ⟨us, hi, p⟩ => by
  obtain ⟨a, vs, rfl, hs, r⟩ := itemsU_ok S1 r1 hi
  refine ⟨a, vs, rfl, hs.symm, ?_⟩
  exact k F G1 H1 μ1 σ ρ _ _ (S.mono e1 S1) p fun ws xs G2 H2 μ2 e2 S2 r2 p2 => q (vs ++ ws) (us ++ xs) G2 H2 μ2 (e1.trans e2) S2 ((r.mono e2).append r2) p2
theorem w_star {sp : Pos} (h : WE X e te we) (k : WAr X es t w) (hs : starEach (.Starred e sp :: es) X.env = (true, eval e X.env) :: starEach es X.env := by rfl) : WAr X (.Starred e sp :: es) (StX.tStar X.K te t) (wStar we w) := ⟨StX.pa_star h.pe k.pa hs, ra_star h.re k.ra⟩
/-! ### xs.extend(ys), ys a list that may change -/
def mExtM : WM := fun u vs μ P => ∃ (a b : Addr) (us ws : List U), u = .r a ∧ vs = [.r b] ∧ μ a = some (.lst us) ∧ μ b = some (.lst ws) ∧ us.length + ws.length ≤ sizeLine ∧ P (.d .none) (put μ a (.lst (us ++ ws)))
theorem rm_extM : RM K rExtend mExtM := fun F G H μ x vs u us P Q S rx rv ⟨a, b, ws, zs, e1, e2, h, k, z, p⟩ q => by
  subst e1 e2
  obtain ⟨v, rfl, q1⟩ := rus1 rv
  obtain ⟨xs, h1, h2⟩ := S.lst h
  obtain ⟨ys, k1, k2⟩ := S.lst k
  obtain rfl : v = .ref b := q1
  refine ⟨a, b, xs, ys, rx, rfl, h1, k1, by rw [h2.length, k2.length]; exact z, ?_⟩
  exact q .non (.d .none) G _ _ (Ext.refl G) (S.write (m' := .lst (ws ++ zs)) h ⟨xs ++ ys, upd_same, h2.append k2⟩) Rp.non p
variable {apos cpos : Pos} {o : Expr} {to : TE} {wo : WX}
def w_extM (ho : WE X o to wo) (ha : WAr X [e] t w)
    (hbase : attributeBase o "extend" X.env (eval o X.env) = eval o X.env := by rfl)
    (hfew : ((backTo cpos (starEach [e] X.env)).all (fun x => !x.1) && (backToKw cpos (keywordEach [] X.env)).all (fun x => x.1.isSome)
      && decide (([e] : List Expr).length + ([] : List Keyword).length + (if ([] : List Keyword).isEmpty then 0 else 1) < 30)) = true := by rfl)
    (hline : (apos.endLine == cpos.line) = true := by rfl) (hs : starEach [e] X.env = (false, eval e X.env) :: starEach [] X.env := by rfl) (hplain : (backTo cpos (starEach [] X.env)).any (·.1) = false := by rfl) := show WE X (.Call (.Attribute o "extend" apos) [e] [] cpos) _ (wML mExtM wo w) from w_bm PySem.F.slot_list_extend PySem.F.type_list_extend mt_extend rm_extM ho ha hbase hfew hline hs hplain
end
end L3

/-! what the worths say of known kinds: for simp -/
namespace L3
open PySem PySem.Spec PyProof.Rows L2
section
variable {α : Type} {x y z w v : U} {xs : List U} {i j : Int} {s t : Str} {b c : Bool} {f : Bool → Bool} {μ : Mu} {P : XP} {d1 d2 d3 d4 d5 : PyData} {p : List PyData → Prop}
theorem at_n {xs : List α} {n : Nat} (h : n < xs.length) : atI xs (n : Int) = some xs[n] := by
  have e : ixN xs.length (n : Int) = some n := by
    unfold ixN
    rw [if_pos (by omega), if_pos (by omega)]
    simp
  unfold atI
  rw [e]
  exact List.getElem?_eq_getElem h
theorem at_0 {x : α} {xs : List α} : atI (x :: xs) 0 = some x := at_n (xs := x :: xs) (n := 0) (by simp only [List.length_cons]; omega)
theorem at_1 {x y : α} {xs : List α} : atI (x :: y :: xs) 1 = some y := at_n (xs := x :: y :: xs) (n := 1) (by simp only [List.length_cons]; omega)
theorem at_2 {x y z : α} {xs : List α} : atI (x :: y :: z :: xs) 2 = some z := at_n (xs := x :: y :: z :: xs) (n := 2) (by simp only [List.length_cons]; omega)
theorem at_3 {x y z w : α} {xs : List α} : atI (x :: y :: z :: w :: xs) 3 = some w := at_n (xs := x :: y :: z :: w :: xs) (n := 3) (by simp only [List.length_cons]; omega)
theorem eqA_int : sEqA f (.d (.int i)) (.d (.int j)) μ P = P (.d (.bool (f (decide (i = j))))) μ := rfl
theorem eqA_str : sEqA f (.d (.str s)) (.d (.str t)) μ P = P (.d (.bool (f (decide (s = t))))) μ := rfl
theorem eqA_bl : sEqA f (.d (.bool b)) (.d (.bool c)) μ P = P (.d (.bool (f (decide (b = c))))) μ := rfl
theorem lt_int : sLt (.d (.int i)) (.d (.int j)) μ P = P (.d (.bool (decide (i < j)))) μ := rfl
theorem gt_int : sGt (.d (.int i)) (.d (.int j)) μ P = P (.d (.bool (decide (j < i)))) μ := rfl
theorem le_int : sLe (.d (.int i)) (.d (.int j)) μ P = P (.d (.bool (decide (i ≤ j)))) μ := rfl
theorem ge_int : sGe (.d (.int i)) (.d (.int j)) μ P = P (.d (.bool (decide (j ≤ i)))) μ := rfl
theorem lt_str : sLt (.d (.str s)) (.d (.str t)) μ P = P (.d (.bool (L3M.ltS s t))) μ := rfl
theorem gt_str : sGt (.d (.str s)) (.d (.str t)) μ P = P (.d (.bool (L3M.ltS t s))) μ := rfl
theorem le_str : sLe (.d (.str s)) (.d (.str t)) μ P = P (.d (.bool (!L3M.ltS t s))) μ := rfl
theorem ge_str : sGe (.d (.str s)) (.d (.str t)) μ P = P (.d (.bool (!L3M.ltS s t))) μ := rfl
theorem in_strs {w : U} {zs : List Str} (h : itemsU μ w = some (zs.map fun y => U.d (.str y))) (q : P (.d (.bool (f (decide (s ∈ zs))))) μ) : sInA f (.d (.str s)) w μ P := ⟨s, zs, rfl, h, q⟩
theorem add_int : sAdd (.d (.int i)) (.d (.int j)) μ P = P (.d (.int (i + j))) μ := rfl
theorem add_str : sAdd (.d (.str s)) (.d (.str t)) μ P = (s.length + t.length ≤ sizeLine ∧ P (.d (.str (s ++ t))) μ) := rfl
theorem mdp : ∀ {xs ys : List PyData}, xs.map U.d = ys.map U.d → xs = ys
  | [], [], _ => rfl
  | x :: xs, y :: ys, h => by
    simp only [List.map_cons, List.cons.injEq, U.d.injEq] at h
    rw [h.1, mdp h.2]
  | [], y :: ys, h => by simp at h
  | x :: xs, [], h => by simp at h
theorem exd {xs : List PyData} : (∃ ds : List PyData, xs.map U.d = ds.map U.d ∧ p ds) ↔ p xs :=
  ⟨fun ⟨ds, e, h⟩ => by rw [mdp e]; exact h, fun h => ⟨xs, rfl, h⟩⟩
theorem exd0 : (∃ ds : List PyData, [] = ds.map U.d ∧ p ds) ↔ p [] := exd (xs := [])
theorem exd1 : (∃ ds : List PyData, [U.d d1] = ds.map U.d ∧ p ds) ↔ p [d1] := exd (xs := [d1])
theorem exd2 : (∃ ds : List PyData, [U.d d1, U.d d2] = ds.map U.d ∧ p ds) ↔ p [d1, d2] := exd (xs := [d1, d2])
theorem exd3 : (∃ ds : List PyData, [U.d d1, U.d d2, U.d d3] = ds.map U.d ∧ p ds) ↔ p [d1, d2, d3] := exd (xs := [d1, d2, d3])
theorem exd4 : (∃ ds : List PyData, [U.d d1, U.d d2, U.d d3, U.d d4] = ds.map U.d ∧ p ds) ↔ p [d1, d2, d3, d4] := exd (xs := [d1, d2, d3, d4])
theorem min_int : qMinA [.d (.int i), .d (.int j)] μ P = P (.d (.int (if j < i then j else i))) μ := rfl
theorem min_str : qMinA [.d (.str s), .d (.str t)] μ P ↔ P (.d (.str (if L3M.ltS t s = true then t else s))) μ :=
  ⟨fun ⟨_, _, e, h⟩ => by cases e; exact h, fun h => ⟨s, t, rfl, h⟩⟩
theorem len_str : qLenA [.d (.str s)] μ P = (s.length ≤ sizeLine ∧ P (.d (.int (s.length : Int))) μ) := rfl
theorem len_lst {l : List PyData} : qLenA [.d (.list l)] μ P ↔ P (.d (.int (l.length : Int))) μ := by
  show (∃ u ws, [U.d (.list l)] = [u] ∧ itemsU μ u = some ws ∧ P (.d (.int (ws.length : Int))) μ) ↔ _
  simp [itemsU]
theorem len_tup {l : List PyData} : qLenA [.d (.tuple l)] μ P ↔ P (.d (.int (l.length : Int))) μ := by
  show (∃ u ws, [U.d (.tuple l)] = [u] ∧ itemsU μ u = some ws ∧ P (.d (.int (ws.length : Int))) μ) ↔ _
  simp [itemsU]
theorem sl0 {n : Nat} (h : n ≤ 64) : n ≤ sizeLine := Nat.le_trans h (by decide)
theorem kk_nb : kitB "NoneType" "bool" = some false := by decide +kernel
theorem kk_nt : kitB "NoneType" "tuple" = some false := by decide +kernel
theorem kk_ni : kitB "NoneType" "int" = some false := by decide +kernel
theorem kk_ns : kitB "NoneType" "str" = some false := by decide +kernel
theorem kk_nl : kitB "NoneType" "list" = some false := by decide +kernel
theorem kk_bb : kitB "bool" "bool" = some true := by decide +kernel
theorem kk_bt : kitB "bool" "tuple" = some false := by decide +kernel
theorem kk_bi : kitB "bool" "int" = some true := by decide +kernel
theorem kk_bs : kitB "bool" "str" = some false := by decide +kernel
theorem kk_bl : kitB "bool" "list" = some false := by decide +kernel
theorem kk_ib : kitB "int" "bool" = some false := by decide +kernel
theorem kk_it : kitB "int" "tuple" = some false := by decide +kernel
theorem kk_ii : kitB "int" "int" = some true := by decide +kernel
theorem kk_is : kitB "int" "str" = some false := by decide +kernel
theorem kk_il : kitB "int" "list" = some false := by decide +kernel
theorem kk_sb : kitB "str" "bool" = some false := by decide +kernel
theorem kk_st : kitB "str" "tuple" = some false := by decide +kernel
theorem kk_si : kitB "str" "int" = some false := by decide +kernel
theorem kk_ss : kitB "str" "str" = some true := by decide +kernel
theorem kk_sl : kitB "str" "list" = some false := by decide +kernel
theorem kk_tb : kitB "tuple" "bool" = some false := by decide +kernel
theorem kk_tt : kitB "tuple" "tuple" = some true := by decide +kernel
theorem kk_ti : kitB "tuple" "int" = some false := by decide +kernel
theorem kk_ts : kitB "tuple" "str" = some false := by decide +kernel
theorem kk_tl : kitB "tuple" "list" = some false := by decide +kernel
theorem kk_lb : kitB "list" "bool" = some false := by decide +kernel
theorem kk_lt : kitB "list" "tuple" = some false := by decide +kernel
theorem kk_li : kitB "list" "int" = some false := by decide +kernel
theorem kk_ls : kitB "list" "str" = some false := by decide +kernel
theorem kk_ll : kitB "list" "list" = some true := by decide +kernel
theorem len_r {a : Addr} {us : List U} (h : μ a = some (.lst us)) (q : P (.d (.int (us.length : Int))) μ) : qLenA [.r a] μ P := by
  show ∃ u ws, [U.r a] = [u] ∧ itemsU μ u = some ws ∧ P (.d (.int (ws.length : Int))) μ
  refine ⟨_, us, rfl, ?_, q⟩
  simp only [itemsU, h]
theorem isL_r {a : Addr} {us : List U} (h : μ a = some (.lst us)) : isL μ (.r a) := ⟨us, by simp only [listU, h]⟩
theorem add_lst {xs ys : List PyData} (h : xs.length + ys.length ≤ sizeLine) (q : P (.d (.list (xs ++ ys))) μ) : sAdd (.d (.list xs)) (.d (.list ys)) μ P := ⟨xs, ys, rfl, rfl, h, q⟩
theorem append_r {a : Addr} {us : List U} {y : U} (h : μ a = some (.lst us)) (l : us.length < sizeLine) (q : P (.d .none) (put μ a (.lst (us ++ [y])))) : mAppend (.r a) [y] μ P := ⟨a, us, y, rfl, rfl, h, l, q⟩
theorem wipe_nil {ρ : Rho} : wipeR ρ [] = ρ := rfl
theorem max_int : qMax2 [.d (.int i), .d (.int j)] μ P ↔ P (.d (.int (if j > i then j else i))) μ :=
  ⟨fun ⟨_, _, e, h⟩ => by cases e; exact h, fun h => ⟨i, j, rfl, h⟩⟩
end
end L3

/-! conditions as trees; they are told apart by what they say (one form each) -/
namespace L3M
open PySem PySem.Spec PyProof.Rows L2
theorem ltS_irrefl (a : Str) : ltS a a = false := decide_eq_false (List.lt_irrefl _)
theorem ltS_trans {a b c : Str} (h : ltS a b = true) (k : ltS b c = true) : ltS a c = true := decide_eq_true (List.lt_trans (of_decide_eq_true h) (of_decide_eq_true k))
theorem ltS_tri {a b : Str} (h : ltS a b = false) (k : ltS b a = false) : a = b := by
  have h1 : ¬ (a.cps.toList < b.cps.toList) := of_decide_eq_false h
  have h2 : ¬ (b.cps.toList < a.cps.toList) := of_decide_eq_false k
  have e : a.cps.toList = b.cps.toList := List.le_antisymm (List.not_lt.mp h2) (List.not_lt.mp h1)
  cases a; cases b
  exact congrArg Str.mk (Array.toList_inj.mp e)
theorem ltS_asymm {a b : Str} (h : ltS a b = true) : ltS b a = false := by
  cases k : ltS b a with
  | false => rfl
  | true => exact absurd (ltS_trans h k) (by rw [ltS_irrefl]; exact Bool.false_ne_true)
theorem ltS_ne {a b : Str} (h : ltS a b = true) : a ≠ b := fun e => by
  rw [e, ltS_irrefl] at h
  cases h
theorem ltS_le {a b : Str} (h : ltS b a = false) : ltS a b = true ∨ a = b := by
  cases k : ltS a b with
  | true => exact .inl rfl
  | false => exact .inr (ltS_tri k h)
end L3M
namespace Cn
open PySem PySem.Spec PyProof.Rows L2 L3 L3M
inductive T where
  | lit (b : Bool)
  | nd (s : Str) (on off : T)
namespace T
def d : T → PyData
  | lit b => .bool b
  | nd s a b => .tuple [.str s, a.d, b.d]
def h : T → Nat
  | lit _ => 0
  | nd _ a b => max a.h b.h + 1
def nm : T → Prop
  | lit _ => True
  | nd s a b => PyData.strOk s = true ∧ a.nm ∧ b.nm
def Ab (x : Str) : T → Prop
  | lit _ => True
  | nd s _ _ => ltS x s = true
def ok : T → Prop
  | lit _ => True
  | nd s a b => a.ok ∧ b.ok ∧ Ab s a ∧ Ab s b ∧ a ≠ b
def ev : T → (Str → Bool) → Bool
  | lit b, _ => b
  | nd s a b, σ => if σ s = true then a.ev σ else b.ev σ
end T
open T
def set (σ : Str → Bool) (x : Str) (v : Bool) : Str → Bool := fun y => if y = x then v else σ y
theorem set_same {σ : Str → Bool} {x : Str} {v : Bool} : set σ x v x = v := if_pos rfl
theorem set_ne {σ : Str → Bool} {x y : Str} {v : Bool} (h : y ≠ x) : set σ x v y = σ y := if_neg h
theorem set_id {σ : Str → Bool} {x : Str} {v : Bool} (h : σ x = v) : set σ x v = σ := by
  funext y
  unfold set
  split
  · rename_i e; rw [e, h]
  · rfl
theorem Ab.trans {x y : Str} {t : T} (h : ltS x y = true) (k : Ab y t) : Ab x t := by
  cases t with
  | lit b => trivial
  | nd s a b => exact ltS_trans h k
theorem ev_ab : ∀ {t : T} {y : Str} {σ : Str → Bool} {v : Bool}, t.ok → Ab y t → t.ev (set σ y v) = t.ev σ
  | lit b, _, _, _, _, _ => rfl
  | nd s a b, y, σ, v, o, k => by
    unfold ev
    rw [set_ne (ltS_ne k).symm, ev_ab o.1 (Ab.trans k o.2.2.1), ev_ab o.2.1 (Ab.trans k o.2.2.2.1)]
theorem ev_on {s : Str} {a b : T} (o : (nd s a b).ok) (σ : Str → Bool) : (nd s a b).ev (set σ s true) = a.ev σ := by
  show (if set σ s true s = true then a.ev (set σ s true) else _) = _
  rw [set_same, if_pos rfl, ev_ab o.1 o.2.2.1]
theorem ev_off {s : Str} {a b : T} (o : (nd s a b).ok) (σ : Str → Bool) : (nd s a b).ev (set σ s false) = b.ev σ := by
  show (if set σ s false s = true then _ else b.ev (set σ s false)) = _
  rw [set_same, if_neg Bool.false_ne_true, ev_ab o.2.1 o.2.2.2.1]
/-- one form for what is said -/
theorem uniq : ∀ (n : Nat) (a b : T), a.h + b.h ≤ n → a.ok → b.ok → (∀ σ, a.ev σ = b.ev σ) → a = b
  | _, lit x, lit y, _, _, _, e => congrArg lit (e fun _ => true)
  | 0, nd _ _ _, _, l, _, _, _ => by unfold T.h at l; omega
  | 0, _, nd _ _ _, l, _, _, _ => by unfold T.h at l; omega
  | n + 1, lit x, nd s u v, l, o, k, e => by
    have hu := uniq n (lit x) u (by simp only [T.h] at l ⊢; omega) o k.1 fun σ => by rw [← ev_on k σ, ← e]; rfl
    have hv := uniq n (lit x) v (by simp only [T.h] at l ⊢; omega) o k.2.1 fun σ => by rw [← ev_off k σ, ← e]; rfl
    exact absurd (hu.symm.trans hv) k.2.2.2.2
  | n + 1, nd s u v, lit x, l, o, k, e => by
    have hu := uniq n u (lit x) (by simp only [T.h] at l ⊢; omega) o.1 k fun σ => by rw [← ev_on o σ, e]; rfl
    have hv := uniq n v (lit x) (by simp only [T.h] at l ⊢; omega) o.2.1 k fun σ => by rw [← ev_off o σ, e]; rfl
    exact absurd (hu.trans hv.symm) o.2.2.2.2
  | n + 1, nd s u v, nd z p q, l, o, k, e => by
    have lu : u.h + (nd z p q).h ≤ n ∧ v.h + (nd z p q).h ≤ n ∧ (nd s u v).h + p.h ≤ n ∧ (nd s u v).h + q.h ≤ n ∧ u.h + p.h ≤ n ∧ v.h + q.h ≤ n := by simp only [T.h] at l ⊢; omega
    cases h1 : ltS s z with
    | true =>
      have hu := uniq n u (nd z p q) lu.1 o.1 k fun σ => by rw [← ev_on o σ, e, ev_ab k h1]
      have hv := uniq n v (nd z p q) lu.2.1 o.2.1 k fun σ => by rw [← ev_off o σ, e, ev_ab k h1]
      exact absurd (hu.trans hv.symm) o.2.2.2.2
    | false =>
      cases h2 : ltS z s with
      | true =>
        have hu := uniq n (nd s u v) p lu.2.2.1 o k.1 fun σ => by rw [← ev_on k σ, ← e, ev_ab o h2]
        have hv := uniq n (nd s u v) q lu.2.2.2.1 o k.2.1 fun σ => by rw [← ev_off k σ, ← e, ev_ab o h2]
        exact absurd (hu.symm.trans hv) k.2.2.2.2
      | false =>
        obtain rfl := ltS_tri h1 h2
        have hu := uniq n u p lu.2.2.2.2.1 o.1 k.1 fun σ => by rw [← ev_on o σ, e, ev_on k]
        have hv := uniq n v q lu.2.2.2.2.2 o.2.1 k.2.1 fun σ => by rw [← ev_off o σ, e, ev_off k]
        rw [hu, hv]
theorem uni {a b : T} (o : a.ok) (k : b.ok) (e : ∀ σ, a.ev σ = b.ev σ) : a = b := uniq _ a b (Nat.le_refl _) o k e

/-! ### as data -/
theorem eqv_d : ∀ a b : T, PyData.eqv a.d b.d = true ↔ a = b
  | lit x, lit y => by
    unfold T.d PyData.eqv
    rw [beq_iff_eq]
    exact ⟨fun h => congrArg lit h, fun h => by cases h; rfl⟩
  | lit x, nd s u v => by
    unfold T.d PyData.eqv
    exact Iff.intro (fun h => nomatch h) (fun h => nomatch h)
  | nd s u v, lit x => by
    unfold T.d PyData.eqv
    exact Iff.intro (fun h => nomatch h) (fun h => nomatch h)
  | nd s u v, nd z p q => by
    have h1 := eqv_d u p
    have h2 := eqv_d v q
    show PyData.eqvAll [.str s, u.d, v.d] [.str z, p.d, q.d] = true ↔ _
    simp only [PyData.eqvAll, Bool.and_eq_true, Bool.and_true, h1, h2]
    show ((s == z) = true ∧ u = p ∧ v = q) ↔ _
    rw [beq_iff_eq]
    exact ⟨fun ⟨a, b, c⟩ => by rw [a, b, c], fun h => by cases h; exact ⟨rfl, rfl, rfl⟩⟩
theorem eqv_dd (a b : T) : PyData.eqv a.d b.d = true ∧ a = b ∨ PyData.eqv a.d b.d = false ∧ a ≠ b := by
  cases e : PyData.eqv a.d b.d with
  | true => exact .inl ⟨rfl, (eqv_d a b).mp e⟩
  | false => exact .inr ⟨rfl, fun h => by rw [(eqv_d a b).mpr h] at e; cases e⟩
theorem d_depth : ∀ a : T, a.d.depth = a.h
  | lit _ => by unfold T.d PyData.depth; rfl
  | nd s u v => by
    have h1 := d_depth u
    have h2 := d_depth v
    show PyData.depthAll [.str s, u.d, v.d] + 1 = max u.h v.h + 1
    simp only [PyData.depthAll, PyData.depth, h1, h2]
    omega
theorem d_canLay : ∀ a : T, a.nm → a.d.canLay0 = true
  | lit _, _ => by unfold T.d PyData.canLay0; rfl
  | nd s u v, ⟨k, h1, h2⟩ => by
    have h1 := d_canLay u h1
    have h2 := d_canLay v h2
    show PyData.canLayAll0 [.str s, u.d, v.d] = true
    simp only [PyData.canLayAll0, PyData.canLay0, h1, h2, k, Bool.and_true]
theorem shp {a : T} (n : a.nm) (h : a.h ≤ 64) : SeqAt.shaped a.d = true := by
  unfold SeqAt.shaped
  rw [d_canLay a n, d_depth]
  simpa using h

/-! ### pieces -/
/-- s stands at the top of t, or above -/
def Ge (s : Str) (t : T) : Prop := Ab s t ∨ ∃ a b, t = nd s a b
def sd (s : Str) (on : Bool) : T → T
  | lit b => lit b
  | nd z a b => if z = s then (if on = true then a else b) else nd z a b
theorem sd_nd {s : Str} {a b : T} {on : Bool} : sd s on (nd s a b) = if on = true then a else b := if_pos rfl
theorem sd_ab {s : Str} {t : T} {on : Bool} (h : Ab s t) : sd s on t = t := by
  cases t with
  | lit b => rfl
  | nd z a b => exact if_neg (ltS_ne h).symm
structure Sd (s : Str) (on : Bool) (t r : T) : Prop where
  ok : r.ok
  nm : r.nm
  ab : Ab s r
  ev : ∀ σ, σ s = on → t.ev σ = r.ev σ
  up : ∀ x, Ab x t → Ab x r
  hl : r.h ≤ t.h
theorem sd_ok {s : Str} {on : Bool} {t : T} (o : t.ok) (n : t.nm) (g : Ge s t) : Sd s on t (sd s on t) := by
  rcases g with g | ⟨a, b, rfl⟩
  · rw [sd_ab g]
    exact ⟨o, n, g, fun _ _ => rfl, fun _ h => h, Nat.le_refl _⟩
  · rw [sd_nd]
    cases on with
    | true => exact ⟨o.1, n.2.1, o.2.2.1, fun σ h => if_pos h, fun x h => Ab.trans h o.2.2.1, by simp only [T.h, if_true]; omega⟩
    | false => exact ⟨o.2.1, n.2.2, o.2.2.2.1, fun σ h => if_neg (by rw [h]; exact Bool.false_ne_true), fun x h => Ab.trans h o.2.2.2.1, by simp only [T.h, Bool.false_eq_true, if_false]; omega⟩
theorem sd_less {s : Str} {on : Bool} {a b : T} : (sd s on (nd s a b)).h < (nd s a b).h := by
  rw [sd_nd]
  cases on
  · simp only [T.h, Bool.false_eq_true, if_false]; omega
  · simp only [T.h, if_true]; omega
open Classical in
noncomputable def node (s : Str) (a b : T) : T := if a = b then a else nd s a b
theorem node_eq {s : Str} {a b : T} (h : a = b) : node s a b = a := if_pos h
theorem node_ne {s : Str} {a b : T} (h : a ≠ b) : node s a b = nd s a b := if_neg h
theorem node_ok {s : Str} {a b : T} (o : a.ok) (k : b.ok) (ha : Ab s a) (hb : Ab s b) : (node s a b).ok := by
  by_cases h : a = b
  · rw [node_eq h]; exact o
  · rw [node_ne h]; exact ⟨o, k, ha, hb, h⟩
theorem node_nm {s : Str} {a b : T} (hs : PyData.strOk s = true) (o : a.nm) (k : b.nm) : (node s a b).nm := by
  by_cases h : a = b
  · rw [node_eq h]; exact o
  · rw [node_ne h]; exact ⟨hs, o, k⟩
theorem node_ev {s : Str} {a b : T} (σ : Str → Bool) : (node s a b).ev σ = if σ s = true then a.ev σ else b.ev σ := by
  by_cases h : a = b
  · rw [node_eq h, h]; split <;> rfl
  · rw [node_ne h]; rfl
theorem node_h {s : Str} {a b : T} : (node s a b).h ≤ max a.h b.h + 1 := by
  by_cases h : a = b
  · rw [node_eq h]; omega
  · rw [node_ne h]; exact Nat.le_refl _
theorem node_up {s x : Str} {a b : T} (hs : ltS x s = true) (ha : Ab s a) : Ab x (node s a b) := by
  by_cases h : a = b
  · rw [node_eq h]; exact Ab.trans hs ha
  · rw [node_ne h]; exact hs
/-- r says f of what c and o say -/
structure Ap (f : Bool → Bool → Bool) (c o r : T) : Prop where
  ok : r.ok
  nm : r.nm
  ev : ∀ σ, r.ev σ = f (c.ev σ) (o.ev σ)
  ab : ∀ x, Ab x c → Ab x o → Ab x r
  h : r.h ≤ c.h + o.h
theorem Ap.node {f : Bool → Bool → Bool} {c o r1 r2 : T} {s : Str} (hs : PyData.strOk s = true) (gc : Ge s c) (go : Ge s o) (ex : (∃ a b, c = nd s a b) ∨ ∃ a b, o = nd s a b) (c1 : c.ok) (c2 : c.nm) (o1 : o.ok) (o2 : o.nm)
    (h1 : Ap f (sd s true c) (sd s true o) r1) (h2 : Ap f (sd s false c) (sd s false o) r2) : Ap f c o (node s r1 r2) := by
  have sc := fun b => sd_ok (on := b) c1 c2 gc
  have so := fun b => sd_ok (on := b) o1 o2 go
  have a1 : Ab s r1 := h1.ab s (sc true).ab (so true).ab
  have a2 : Ab s r2 := h2.ab s (sc false).ab (so false).ab
  refine ⟨node_ok h1.ok h2.ok a1 a2, node_nm hs h1.nm h2.nm, fun σ => ?_, fun x hc ho => ?_, ?_⟩
  · rw [node_ev]
    cases e : σ s with
    | true => rw [if_pos rfl, h1.ev, (sc true).ev σ e, (so true).ev σ e]
    | false => rw [if_neg Bool.false_ne_true, h2.ev, (sc false).ev σ e, (so false).ev σ e]
  · rcases ex with ⟨a, b, rfl⟩ | ⟨a, b, rfl⟩
    · exact node_up hc a1
    · exact node_up ho a1
  · have n := node_h (s := s) (a := r1) (b := r2)
    have l1 := h1.h
    have l2 := h2.h
    have k1 := (sc true).hl
    have k2 := (sc false).hl
    have k3 := (so true).hl
    have k4 := (so false).hl
    rcases ex with ⟨a, b, rfl⟩ | ⟨a, b, rfl⟩
    · have q1 := sd_less (s := s) (on := true) (a := a) (b := b)
      have q2 := sd_less (s := s) (on := false) (a := a) (b := b)
      omega
    · have q1 := sd_less (s := s) (on := true) (a := a) (b := b)
      have q2 := sd_less (s := s) (on := false) (a := a) (b := b)
      omega
end Cn

/-! tables of truths and the one form of a condition -/
namespace Cn
open PySem PySem.Spec PyProof.Rows L2 L3 L3M
def idx : List Bool → Nat
  | [] => 0
  | b :: bs => (if b = true then 2 ^ bs.length else 0) + idx bs
theorem idx_lt : ∀ bs : List Bool, idx bs < 2 ^ bs.length
  | [] => by decide
  | b :: bs => by
    have h := idx_lt bs
    show (if b = true then 2 ^ bs.length else 0) + idx bs < 2 ^ (bs.length + 1)
    rw [Nat.pow_succ]
    split <;> omega
def bitsOf : Nat → Nat → List Bool
  | 0, _ => []
  | n + 1, k => decide (2 ^ n ≤ k) :: bitsOf n (if 2 ^ n ≤ k then k - 2 ^ n else k)
theorem bitsOf_len : ∀ (n k : Nat), (bitsOf n k).length = n
  | 0, _ => rfl
  | n + 1, k => congrArg Nat.succ (bitsOf_len n _)
theorem idx_bitsOf : ∀ (n k : Nat), k < 2 ^ n → idx (bitsOf n k) = k
  | 0, k, h => by
    have : k = 0 := by simpa using h
    subst this
    rfl
  | n + 1, k, h => by
    rw [Nat.pow_succ] at h
    show (if decide (2 ^ n ≤ k) = true then 2 ^ (bitsOf n _).length else 0) + idx (bitsOf n _) = k
    rw [bitsOf_len]
    by_cases hk : 2 ^ n ≤ k
    · rw [if_pos (decide_eq_true hk), if_pos hk, idx_bitsOf n _ (by omega)]
      omega
    · rw [if_neg (by simpa using hk), if_neg hk, idx_bitsOf n _ (by omega)]
      omega
theorem bitsOf_idx : ∀ bs : List Bool, bitsOf bs.length (idx bs) = bs
  | [] => rfl
  | b :: bs => by
    have h := idx_lt bs
    have e := bitsOf_idx bs
    cases b with
    | true =>
      have k : idx (true :: bs) = 2 ^ bs.length + idx bs := rfl
      rw [k]
      show decide (2 ^ bs.length ≤ 2 ^ bs.length + idx bs) :: bitsOf bs.length (if 2 ^ bs.length ≤ 2 ^ bs.length + idx bs then 2 ^ bs.length + idx bs - 2 ^ bs.length else _) = _
      rw [decide_eq_true (by omega), if_pos (by omega), Nat.add_sub_cancel_left, e]
    | false =>
      have k : idx (false :: bs) = idx bs := Nat.zero_add _
      rw [k]
      show decide (2 ^ bs.length ≤ idx bs) :: bitsOf bs.length (if 2 ^ bs.length ≤ idx bs then _ else idx bs) = _
      rw [decide_eq_false (by omega), if_neg (by omega), e]
def tn (n i : Nat) (on : Bool) (k : Nat) : Nat := (if k / max 1 (2 ^ n / 2 ^ (i + 1)) % 2 = 1 then k - 2 ^ n / 2 ^ (i + 1) else k) + if on = true then 2 ^ n / 2 ^ (i + 1) else 0
theorem tn_bits : ∀ n ≤ 5, ∀ i < n, ∀ k < 2 ^ n, ∀ on, tn n i on k = idx ((bitsOf n k).set i on) := by decide +kernel
theorem tn_lt {n i k : Nat} {on : Bool} (hn : n ≤ 5) (hi : i < n) (hk : k < 2 ^ n) : tn n i on k < 2 ^ n := by
  rw [tn_bits n hn i hi k hk]
  have h := idx_lt ((bitsOf n k).set i on)
  rwa [List.length_set, bitsOf_len] at h
/-- names in their order, none twice -/
def Srt (names : List Str) : Prop := names.Pairwise fun a b => ltS a b = true
noncomputable def form : List Str → List Bool → T
  | [], row => .lit (row.headD false)
  | x :: xs, row => node x (form xs (row.drop (row.length / 2))) (form xs (row.take (row.length / 2)))
theorem form_ab : ∀ {names : List Str} {row : List Bool}, Srt names → (form names row).ok ∧ ∀ y, (∀ x ∈ names, ltS y x = true) → T.Ab y (form names row)
  | [], _, _ => ⟨trivial, fun _ _ => trivial⟩
  | x :: xs, row, h => by
    have h := List.pairwise_cons.mp h
    have h1 := form_ab (row := row.drop (row.length / 2)) h.2
    have h2 := form_ab (row := row.take (row.length / 2)) h.2
    have a1 := h1.2 x h.1
    have a2 := h2.2 x h.1
    exact ⟨node_ok h1.1 h2.1 a1 a2, fun y hy => node_up (hy x (List.mem_cons_self ..)) a1⟩
theorem form_nm : ∀ {names : List Str} {row : List Bool}, (∀ x ∈ names, PyData.strOk x = true) → (form names row).nm
  | [], _, _ => trivial
  | x :: xs, row, h => node_nm (h x (List.mem_cons_self ..)) (form_nm fun y hy => h y (List.mem_cons_of_mem _ hy)) (form_nm fun y hy => h y (List.mem_cons_of_mem _ hy))
theorem form_h : ∀ {names : List Str} {row : List Bool}, (form names row).h ≤ names.length
  | [], _ => Nat.le_refl _
  | x :: xs, row => by
    have h1 := form_h (names := xs) (row := row.drop (row.length / 2))
    have h2 := form_h (names := xs) (row := row.take (row.length / 2))
    have := node_h (s := x) (a := form xs (row.drop (row.length / 2))) (b := form xs (row.take (row.length / 2)))
    show (node x _ _).h ≤ xs.length + 1
    omega
theorem form_ev : ∀ {names : List Str} {row : List Bool} (σ : Str → Bool), row.length = 2 ^ names.length → row[idx (names.map σ)]? = some ((form names row).ev σ)
  | [], row, σ, h => by
    have h : row.length = 1 := h
    match row, h with
    | [b], _ => rfl
  | x :: xs, row, σ, h => by
    have hl : row.length / 2 = 2 ^ xs.length := by
      rw [h, List.length_cons, Nat.pow_succ]
      omega
    have h' : row.length = 2 ^ xs.length + 2 ^ xs.length := by rw [h, List.length_cons, Nat.pow_succ]; omega
    have l := idx_lt (xs.map σ)
    rw [List.length_map] at l
    show row[(if σ x = true then 2 ^ (xs.map σ).length else 0) + idx (xs.map σ)]? = some ((node x _ _).ev σ)
    rw [node_ev, List.length_map, hl]
    by_cases hx : σ x = true
    · rw [if_pos hx, if_pos hx, ← form_ev σ (by rw [List.length_drop]; omega), List.getElem?_drop]
    · rw [if_neg hx, if_neg hx, ← form_ev σ (by rw [List.length_take]; omega), List.getElem?_take, if_pos l, Nat.zero_add]
def lk (row : List Bool) (k : Nat) : Bool := row[k]?.getD false
theorem form_lk {names : List Str} {row : List Bool} (σ : Str → Bool) (h : row.length = 2 ^ names.length) : (form names row).ev σ = lk row (idx (names.map σ)) := by
  unfold lk
  rw [form_ev σ h]
  rfl
/-- a condition that says what the table says -/
theorem form_uni {names : List Str} {row : List Bool} {c : T} (hs : Srt names) (hl : row.length = 2 ^ names.length) (o : c.ok) (h : ∀ σ, c.ev σ = lk row (idx (names.map σ))) : c = form names row :=
  uni o (form_ab hs).1 fun σ => by rw [h, form_lk σ hl]
theorem set_map {names : List Str} {σ : Str → Bool} {v : Bool} : ∀ {i : Nat} {x : Str}, Srt names → names[i]? = some x → names.map (Cn.set σ x v) = (names.map σ).set i v := by
  induction names with
  | nil => intro i x _ h; simp at h
  | cons y ys ih =>
    intro i x hs h
    have hs := List.pairwise_cons.mp hs
    cases i with
    | zero =>
      have h : y = x := by simpa using h
      subst h
      rw [List.map_cons, set_same, List.map_cons, List.set_cons_zero]
      refine congrArg _ (List.map_congr_left fun z hz => set_ne ?_)
      exact (ltS_ne (hs.1 z hz)).symm
    | succ i =>
      have h : ys[i]? = some x := by simpa using h
      have hx : x ∈ ys := List.mem_of_getElem? h
      rw [List.map_cons, List.map_cons, List.set_cons_succ, ih hs.2 h, set_ne (ltS_ne (hs.1 x hx))]
theorem set_map_out {names : List Str} {σ : Str → Bool} {v : Bool} {x : Str} (h : x ∉ names) : names.map (Cn.set σ x v) = names.map σ :=
  List.map_congr_left fun z hz => set_ne fun e => h (e ▸ hz)
theorem tn_idx {names : List Str} {σ : Str → Bool} {i : Nat} {x : Str} {on : Bool} (hs : Srt names) (hn : names.length ≤ 5) (hi : names[i]? = some x) : tn names.length i on (idx (names.map σ)) = idx (names.map (Cn.set σ x on)) := by
  have l := idx_lt (names.map σ)
  rw [List.length_map] at l
  have h := List.getElem?_eq_some_iff.mp hi
  rw [tn_bits _ hn i h.1 _ l, set_map hs hi]
  have e := bitsOf_idx (names.map σ)
  rw [List.length_map] at e
  rw [e]
/-- every row of truths is some setting -/
theorem some_set : ∀ {names : List Str} {bs : List Bool}, Srt names → bs.length = names.length → ∃ σ : Str → Bool, names.map σ = bs
  | [], [], _, _ => ⟨fun _ => false, rfl⟩
  | x :: xs, b :: bs, hs, h => by
    have hs := List.pairwise_cons.mp hs
    obtain ⟨σ, e⟩ := some_set (names := xs) (bs := bs) hs.2 (by simpa using h)
    refine ⟨Cn.set σ x b, ?_⟩
    rw [List.map_cons, set_same, set_map_out fun h => ltS_ne (hs.1 x h) rfl, e]
theorem some_k {names : List Str} {k : Nat} (hs : Srt names) (h : k < 2 ^ names.length) : ∃ σ : Str → Bool, idx (names.map σ) = k := by
  obtain ⟨σ, e⟩ := some_set hs (bitsOf_len names.length k)
  exact ⟨σ, by rw [e, idx_bitsOf _ _ h]⟩
end Cn

/-! any, all of a list; f-strings; tuples put together -/
namespace L3
open PySem PySem.Spec PyProof.Rows L2
theorem rus_bools {K : Fg} {G : Hp} : ∀ {bs : List Bool} {vs : List V}, Rus K G vs (bs.map fun b => U.d (.bool b)) → vs = bs.map V.bl
  | [], _, h => by cases h; rfl
  | b :: bs, _, h => by
    cases h with
    | cons h t => rw [rp_bl h, rus_bools t]; rfl
def qAny (f : List Bool → Bool) : WQ := fun us μ P => ∃ (u : U) (bs : List Bool), us = [u] ∧ listU μ u = some (bs.map fun b => U.d (.bool b)) ∧ P (.d (.bool (f bs))) μ
theorem rq_any {K : Fg} {f : List Bool → Bool} {r : List V → Hp → VK → Prop} (hr : ∀ vs H Q, (∃ (a : Addr) (bs : List Bool), vs = [V.ref a] ∧ SqL K H a (bs.map V.bl) ∧ Q (.bl (f bs)) H) → r vs H Q) : RQ K r (qAny f) := fun F G H μ vs us P Q S r ⟨u, bs, e, hl, p⟩ q => by
  subst e
  obtain ⟨v, rfl, rv⟩ := rus1 r
  obtain ⟨a, xs, rfl, h1, h2⟩ := listU_ok S rv hl
  rw [rus_bools h2] at h1
  exact hr _ _ _ ⟨a, bs, rfl, h1, q (.bl _) (.d (.bool _)) G H μ (Ext.refl G) S (Rp.bl _) p⟩
theorem boot_any' : bootBuiltins "any" = some (.builtin "any") := by decide +kernel
theorem boot_all' : bootBuiltins "all" = some (.builtin "all") := by decide +kernel
section
variable {K : Fg} {X : Cx} {pos p : Pos} {e a b : Expr} {es : List Expr} {t : TA} {w : WL} {ta tb : TE} {wa wb : WX}
def w_any (hc : X.calm = true) (hg : Gl X "any") (hm : X.mg "any" = none) (ha : WAr X (e :: es) t w) (he : starEach (e :: es) X.env = (false, eval e X.env) :: starEach es X.env := by rfl) (hpl : (backTo pos (starEach es X.env)).any (·.1) = false := by rfl) := show WE X (.Call (.Name "any" p) (e :: es) [] pos) _ (wQ (qAny fun bs => bs.any id) w) from w_qb (cr_any hc) (rq_any fun _ _ _ h => h) hg hm boot_any' ha (by decide) (by decide) he hpl
def w_all (hc : X.calm = true) (hg : Gl X "all") (hm : X.mg "all" = none) (ha : WAr X (e :: es) t w) (he : starEach (e :: es) X.env = (false, eval e X.env) :: starEach es X.env := by rfl) (hpl : (backTo pos (starEach es X.env)).any (·.1) = false := by rfl) := show WE X (.Call (.Name "all" p) (e :: es) [] pos) _ (wQ (qAny fun bs => bs.all id) w) from w_qb (cr_all hc) (rq_any fun _ _ _ h => h) hg hm boot_all' ha (by decide) (by decide) he hpl
/-! ### f-strings -/
def wFmt (w : WX) : WX := fun ρ μ P => w ρ μ fun u μ1 => (∃ y : Str, u = .d (.str y) ∧ y.length ≤ sizeLine ∧ P (.d (.str y)) μ1) ∨ ∃ i : Int, u = .d (.int i) ∧ i.natAbs.log2 < 1920 ∧ P (.d (.str (toString i))) μ1
theorem re_fmt (h : RE K ta wa) : RE K (tFmt ta) (wFmt wa) := fun F G H μ σ ρ P Q S x q => h F G H μ σ ρ _ _ S x fun v u G1 H1 μ1 e1 S1 r1 p => by
  rcases p with ⟨y, e, hz, p⟩ | ⟨i, e, hz, p⟩
  · subst e
    exact .inl ⟨y, rp_str r1, hz, q (.str y) (.d (.str y)) G1 H1 μ1 e1 S1 (Rp.str y) p⟩
  · subst e
    exact .inr ⟨i, rp_int r1, hz, q (.str _) (.d (.str _)) G1 H1 μ1 e1 S1 (Rp.str _) p⟩
theorem w_fmt (h : WE X a ta wa) : WE X (.FormattedValue a (-1) none pos) (tFmt ta) (wFmt wa) := ⟨pe_fmt h.pe, re_fmt h.re⟩
def wJs : List WX → Str → Rho → Mu → (Str → Mu → Prop) → Prop
  | [], acc, _, μ, P => P acc μ
  | w :: ws, acc, ρ, μ, P => w ρ μ fun u μ1 => ∃ y : Str, u = .d (.str y) ∧ (acc ++ y).length ≤ sizeLine ∧ wJs ws (acc ++ y) ρ μ1 P
inductive WJ (X : Cx) : List Expr → List TE → List WX → Prop
  | nil : WJ X [] [] []
  | cons {e : Expr} {t : TE} {w : WX} {es : List Expr} {ts : List TE} {ws : List WX} : WE X e t w → WJ X es ts ws → WJ X (e :: es) (t :: ts) (w :: ws)
theorem WJ.pj {es : List Expr} {ts : List TE} {ws : List WX} (h : WJ X es ts ws) : PJ X es ts := by
  induction h with
  | nil => exact .nil
  | cons h _ ih => exact .cons h.pe ih
theorem WJ.rj {es : List Expr} {ts : List TE} {ws : List WX} (h : WJ X es ts ws) : ∀ (F G H : Hp) (μ : Mu) (σ : L2.St) (ρ : Rho) (acc : Str) (P : Str → Mu → Prop) (Q : Str → Hp → Prop), Sim X.K F G H μ σ ρ → wJs ws acc ρ μ P →
    (∀ out G' H' μ', Ext G G' → St3 X.K F G' H' μ' → P out μ' → Q out H') → tJs ts acc σ H Q := by
  induction h with
  | nil => exact fun F G H μ σ ρ acc P Q S p q => q acc G H μ (Ext.refl G) S.st p
  | cons h _ ih =>
    intro F G H μ σ ρ acc P Q S p q
    refine h.re F G H μ σ ρ _ _ S p fun v u G1 H1 μ1 e1 S1 r1 ⟨y, e, hz, p1⟩ => ?_
    subst e
    exact ⟨y, rp_str r1, hz, ih F G1 H1 μ1 σ ρ _ P Q (S.mono e1 S1) p1 fun out G2 H2 μ2 e2 S2 p2 => q out G2 H2 μ2 (e1.trans e2) S2 p2⟩
def wJoined (ws : List WX) : WX := fun ρ μ P => wJs ws Str.empty ρ μ fun out μ1 => P (.d (.str out)) μ1
theorem w_joined {v1 v2 : Expr} {rest : List Expr} {ts : List TE} {ws : List WX} (h : WJ X (v1 :: v2 :: rest) ts ws) : WE X (.JoinedStr (v1 :: v2 :: rest) pos) (fun σ H Q => tJs ts Str.empty σ H fun out H1 => Q (.str out) H1) (wJoined ws) :=
  ⟨pe_joined h.pj, fun F G H μ σ ρ P Q S x q => h.rj F G H μ σ ρ Str.empty _ _ S x fun out G1 H1 μ1 e1 S1 p => q (.str out) (.d (.str out)) G1 H1 μ1 e1 S1 (Rp.str out) p⟩
/-! ### tuples put together -/
def sCatT : WR := fun u w μ P => ∃ xs ys : List PyData, u = .d (.tuple xs) ∧ w = .d (.tuple ys) ∧ xs.length + ys.length ≤ sizeLine ∧ P (.d (.tuple (xs ++ ys))) μ
theorem ro_catT : RO K (rCatA K) sCatT := fun F G H μ x y u w P Q S rx ry ⟨xs, ys, e1, e2, z, pp⟩ q => by
  subst e1 e2
  have rx0 := rx
  have ry0 := ry
  obtain ⟨a, vs, rfl, k1, r1⟩ := rp_tup rx
  obtain ⟨b, ws, rfl, k2, r2⟩ := rp_tup ry
  have l1 := r1.length
  have l2 := r2.length
  refine ⟨a, b, vs, ws, rfl, rfl, k1.sq S.sub, k2.sq S.sub, by rw [l1, l2]; exact z, fun e => ?_, fun _ e => ?_, fun _ _ p hp => ?_⟩
  · have : xs = [] := List.length_eq_zero_iff.mp (by rw [← l1, e]; rfl)
    subst this
    exact q (.ref b) (.d (.tuple ys)) G H μ (Ext.refl G) S ry0 pp
  · have : ys = [] := List.length_eq_zero_iff.mp (by rw [← l2, e]; rfl)
    subst this
    rw [List.append_nil] at pp
    exact q (.ref a) (.d (.tuple xs)) G H μ (Ext.refl G) S rx0 pp
  · obtain ⟨e, S'⟩ := S.newG (o := .tup (vs ++ ws)) hp
    refine q (.ref p) (.d (.tuple (xs ++ ys))) _ _ μ e S' (Rp.tup (.inl upd_same) ?_) pp
    have r3 : Rus K G (vs ++ ws) ((xs ++ ys).map U.d) := by
      rw [List.map_append]
      exact (rus_d r1).append (rus_d r2)
    exact (d_rus r3).mono e
def w_addT (ha : WE X a ta wa) (hb : WE X b tb wb) := show WE X (.BinOp a .Add b pos) _ (wOp sCatT wa wb) from w_bin op_catA ro_catT ha hb
/-! ### a, b = x, y -/
def wPar (i j : Nat) (w : WL) : WSt := fun B ρ μ => w ρ μ fun us μ1 => ∃ u v, us = [u, v] ∧ B.nx ((ρ.set i (some u)).set j (some v)) μ1
theorem rs_par {i j : Nat} (h : RA K t w) : RS K (tPar i j t) (wPar i j w) := fun F G H μ σ ρ D B S L q => h F G H μ σ ρ _ _ S q fun vs us G1 H1 μ1 e1 S1 r1 ⟨u, v, e, p⟩ => by
  subst e
  obtain ⟨x, y, rfl, rx, ry⟩ := rus2 r1
  exact ⟨x, y, rfl, L.nx _ G1 H1 _ μ1 e1 (((S.mono e1 S1).set rx).set ry) p⟩
theorem w_par (i j : Nat) {x y : Str} {px py pt : Pos} {kt k2 : Nat} {pt2 : Pos} (hc : X.calm = true) (hN : X.N.Nodup) (ha : WAr X [a, b] t w) (hi : X.N[i]? = some x := by rfl) (hj : X.N[j]? = some y := by rfl) (hij : i ≠ j := by decide)
    (hx : X.env.scope.names.lookup x = some .local := by rfl) (hy : X.env.scope.names.lookup y = some .local := by rfl)
    (hw : swappedStores [.Tuple [.Name x px, .Name y py] kt pt] (.Tuple [a, b] k2 pt2) X.env = pure (some [x, y]) := by rfl)
    (hs : swapsWithSole [.Tuple [.Name x px, .Name y py] kt pt] (.Tuple [a, b] k2 pt2) pos.line X.env = pure false := by rfl) :
    WS X (.Assign [.Tuple [.Name x px, .Name y py] kt pt] (.Tuple [a, b] k2 pt2) pos) (tPar i j t) (wPar i j w) := ⟨ps_par hc hN hi hj hij hx hy ha.pa hw hs, rs_par ha.ra⟩
end
end L3

/-! texts walked and cut; x in l, l.index(x) over data; dict comprehensions, d.update(d) -/
namespace L3
open PySem PySem.Spec PyProof.Rows L2
/-! ### texts -/
def signs (x : Str) : List U := x.cps.toList.map fun c => .d (.str ⟨#[c]⟩)
def jStr (w : WX) : WIt := fun ρ μ P => w ρ μ fun u μ1 => ∃ x, u = .d (.str x) ∧ P (signs x) (fun _ => True) μ1
def wSlS (w : WX) (l h : WO) : WX := fun ρ μ P => w ρ μ fun u μ1 => l ρ μ1 fun lo μ2 => h ρ μ2 fun hi μ3 => ∃ z, u = .d (.str z) ∧ z.length ≤ sizeLine ∧ P (.d (.str (cutS z lo hi))) μ3
section
variable {K : Fg} {X : Cx} {tg e : Expr} {te : TE} {we : WX} {pos p2 : Pos} {lo hi : Option Expr} {tl th : TO} {wl wh : WO}
theorem ri_str (h : RE K te we) : RI K (iStr te) (jStr we) := fun F G H μ σ ρ P R S w q => h F G H μ σ ρ _ _ S w fun v u G1 H1 μ1 e1 S1 r1 ⟨x, e, p⟩ => by
  subst e
  refine ⟨x, rp_str r1, q _ _ _ G1 H1 μ1 e1 S1 (fun F2 G2 H2 μ2 e2 S2 _ i => ⟨fun h => ?_, fun u hu => ?_⟩) p⟩
  · show x.cps.size ≤ i
    simpa [signs] using h
  · have hi : i < x.cps.size := by
      have := (List.getElem?_eq_some_iff.mp hu).1
      simpa [signs] using this
    refine ⟨hi, fun y H' ⟨e3, c, hc, e4⟩ => ?_⟩
    subst e3 e4
    refine ⟨G2, Ext.refl G2, S2, ?_⟩
    have e5 : u = .d (.str ⟨#[c]⟩) := by
      unfold signs at hu
      rw [List.getElem?_map, Array.getElem?_toList, hc] at hu
      exact (Option.some.inj hu).symm
    rw [e5]
    exact Rp.str _
theorem w_seqS (h : WE X e te we) : WI X tg e (iStr te) (jStr we) := ⟨pi_str h.pe, ri_str h.re⟩
theorem re_slS (h : RE K te we) (hl : RPt K tl wl) (hh : RPt K th wh) : RE K (tSl rSlS te tl th) (wSlS we wl wh) := fun F G H μ σ ρ P Q S w q => h F G H μ σ ρ _ _ S w fun v u G1 H1 μ1 e1 S1 r1 p1 =>
  hl F G1 H1 μ1 σ ρ _ _ (S.mono e1 S1) p1 fun lo G2 H2 μ2 e2 S2 p2 => hh F G2 H2 μ2 σ ρ _ _ (S.mono (e1.trans e2) S2) p2 fun hi G3 H3 μ3 e3 S3 ⟨z, e, hz, p3⟩ => by
    subst e
    exact ⟨z, rp_str ((r1.mono e2).mono e3), hz, q (.str _) (.d (.str _)) _ _ μ3 ((e1.trans e2).trans e3) S3 (Rp.str _) p3⟩
theorem w_slS (h : WE X e te we) (hl : WPo X lo tl wl) (hh : WPo X hi th wh) : WE X (.Subscript e (.Slice lo hi none p2) pos) (tSl rSlS te tl th) (wSlS we wl wh) := ⟨pe_slice sl_str h.pe hl.po hh.po, re_slS h.re hl.rp hh.rp⟩
end
/-! ### in, index -/
def sInD (f : Bool → Bool) : WR := fun u w μ P => ∃ (d : PyData) (ds : List PyData), u = .d d ∧ listU μ w = some (ds.map U.d) ∧ SeqAt.shaped d = true ∧ SeqAt.shaped (.list ds) = true ∧ P (.d (.bool (f (ds.any fun z => PyData.eqv z d)))) μ
def mIndexD : WM := fun u vs μ P => ∃ (d : PyData) (ds : List PyData) (j : Nat) (z : PyData), vs = [.d d] ∧ listU μ u = some (ds.map U.d) ∧ SeqAt.shaped (.list ds) = true ∧ SeqAt.shaped d = true ∧ ds[j]? = some z ∧ PyData.eqv z d = true ∧
  (∀ (m : Nat) (z' : PyData), m < j → ds[m]? = some z' → PyData.eqv z' d = false) ∧ P (.d (.int (j : Nat))) μ
section
variable {K : Fg} {X : Cx} {a b o e : Expr} {ta tb to te : TE} {wa wb wo we : WX} {pos apos cpos : Pos} {t : TA} {w : WL}
theorem dp_list {F G H : Hp} {μ : Mu} {v : V} {u : U} {ds : List PyData} (S : St3 K F G H μ) (r : Ru K G v u) (h : listU μ u = some (ds.map U.d)) : ∃ l, v = .ref l ∧ Dp K H v (.list ds) := by
  obtain ⟨l, vs, rfl, h1, h2⟩ := listU_ok S r h
  exact ⟨l, rfl, .lst h1 (Rps.dp S.sub (d_rus h2))⟩
theorem ro_inD : RO K (rInD K) (sInD id) := fun F G H μ x y u w P Q S rx ry ⟨d, ds, e1, e2, s1, s2, p⟩ q => by
  subst e1
  obtain ⟨l, _, hd⟩ := dp_list S ry e2
  exact ⟨d, ds, Rp.dp S.sub rx, hd, s1, s2, q (.bl _) (.d (.bool _)) G H μ (Ext.refl G) S (Rp.bl _) p⟩
theorem ro_notInD : RO K (rNotInD K) (sInD not) := fun F G H μ x y u w P Q S rx ry ⟨d, ds, e1, e2, s1, s2, p⟩ q => by
  subst e1
  obtain ⟨l, _, hd⟩ := dp_list S ry e2
  exact ⟨d, ds, Rp.dp S.sub rx, hd, s1, s2, q (.bl _) (.d (.bool _)) G H μ (Ext.refl G) S (Rp.bl _) p⟩
theorem w_inD (hu : X.A.units + 65 < cLine) (ha : WE X a ta wa) (hb : WE X b tb wb) (hm : behindInMarks .In b = false := by rfl) : WCp X (.Compare a [.In] [b] pos) (tOp (rInD X.K) ta tb) (wOp (sInD id) wa wb) := w_cmpC (op_inD hu) ro_inD ha hb hm
theorem w_notinD (hu : X.A.units + 65 < cLine) (ha : WE X a ta wa) (hb : WE X b tb wb) (hm : behindInMarks .NotIn b = false := by rfl) : WCp X (.Compare a [.NotIn] [b] pos) (tOp (rNotInD X.K) ta tb) (wOp (sInD not) wa wb) := w_cmpC (op_notInD hu) ro_notInD ha hb hm
theorem rm_indexD : RM K (rIndexD K) mIndexD := fun F G H μ x vs u us P Q S rx rv ⟨d, ds, j, z, e1, e2, s1, s2, hz, hj, hn, p⟩ q => by
  subst e1
  obtain ⟨v, rfl, q1⟩ := rus1 rv
  obtain ⟨l, rfl, hd⟩ := dp_list S rx e2
  exact ⟨l, v, d, ds, j, z, rfl, rfl, hd, Rp.dp S.sub q1, s1, s2, hz, hj, hn, q (.int _) (.d (.int _)) G H μ (Ext.refl G) S (Rp.int _) p⟩
theorem units65 {k : Nat} {A : Around} (r : Room k A) : A.units + 65 < cLine := by have := r.un; omega
def w_indexD (hu : X.A.units + 65 < cLine) (ho : WE X o to wo) (ha : WAr X [e] t w)
    (hbase : attributeBase o "index" X.env (eval o X.env) = eval o X.env := by rfl)
    (hfew : ((backTo cpos (starEach [e] X.env)).all (fun x => !x.1) && (backToKw cpos (keywordEach [] X.env)).all (fun x => x.1.isSome)
      && decide (([e] : List Expr).length + ([] : List Keyword).length + (if ([] : List Keyword).isEmpty then 0 else 1) < 30)) = true := by rfl)
    (hline : (apos.endLine == cpos.line) = true := by rfl) (hs : starEach [e] X.env = (false, eval e X.env) :: starEach [] X.env := by rfl) (hplain : (backTo cpos (starEach [] X.env)).any (·.1) = false := by rfl) := show WE X (.Call (.Attribute o "index" apos) [e] [] cpos) _ (wML mIndexD wo w) from
      w_bm PySem.F.slot_list_index PySem.F.type_list_index (mt_indexD hu) rm_indexD ho ha hbase hfew hline hs hplain
end
/-! ### d.update(d) -/
def mergeK (kvs more : List (Key × V)) : List (Key × V) := more.foldl (fun acc kv => putK acc kv.1 kv.2) kvs
def mergeU (kvs more : List (Key × U)) : List (Key × U) := more.foldl (fun acc kv => putU acc kv.1 kv.2) kvs
theorem length_putU {kvs : List (Key × U)} {k : Key} {v : U} : (putU kvs k v).length ≤ kvs.length + 1 := by
  unfold putU
  split <;> simp
theorem length_mergeU : ∀ {more kvs : List (Key × U)}, (mergeU kvs more).length ≤ kvs.length + more.length
  | [], _ => Nat.le_refl _
  | kv :: more, kvs => by
    have h := length_mergeU (more := more) (kvs := putU kvs kv.1 kv.2)
    have g := length_putU (kvs := kvs) (k := kv.1) (v := kv.2)
    show (mergeU (putU kvs kv.1 kv.2) more).length ≤ _
    rw [List.length_cons]
    omega
theorem length_mergeK : ∀ {more kvs : List (Key × V)}, (mergeK kvs more).length ≤ kvs.length + more.length
  | [], _ => Nat.le_refl _
  | kv :: more, kvs => by
    have h := length_mergeK (more := more) (kvs := putK kvs kv.1 kv.2)
    have g := length_putK kvs kv.1 kv.2
    show (mergeK (putK kvs kv.1 kv.2) more).length ≤ _
    rw [List.length_cons]
    omega
theorem kv_merge : ∀ {more : List (Key × V)} {ws : List (Key × Value)} {kvs : List (Key × V)} {vs : List (Key × Value)}, KV kvs vs → KV more ws → KV (mergeK kvs more) (merged vs ws)
  | _, _, _, _, r, .nil => r
  | _, _, kvs, vs, r, .cons (a := (k, v)) (b := (j, u)) ⟨e, h⟩ t => by
    have e : k = j := e
    subst e
    show KV (mergeK (putK kvs k v) _) (merged (stored vs k u) _)
    exact kv_merge (KV.put r k h) t
theorem rkv_merge {K : Fg} {G : Hp} : ∀ {more : List (Key × V)} {ws : List (Key × U)} {kvs : List (Key × V)} {vs : List (Key × U)}, Rkv K G kvs vs → Rkv K G more ws → Rkv K G (mergeK kvs more) (mergeU vs ws)
  | _, _, _, _, r, .nil => r
  | _, _, kvs, vs, r, .cons (k := k) (v := v) (u := u) h t => by
    show Rkv K G (mergeK (putK kvs k v) _) (mergeU (putU vs k u) _)
    exact rkv_merge (rkv_put h r) t
def rUpd : V → List V → Hp → VK → Prop := fun x xs H Q => ∃ (a b : Addr) (kvs more : List (Key × V)), x = .ref a ∧ xs = [.ref b] ∧ a ≠ b ∧ H a = some (.dK kvs) ∧ H b = some (.dK more) ∧ kvs.length + more.length ≤ sizeLine ∧ Q .non (upd H a (.dK (mergeK kvs more)))
theorem mt_update {X : Cx} : MtR X "dict.update" rUpd := by
  intro pins s σ H x xs v us Q I rx rs ⟨a, b, kvs, more, e1, e2, ne, ha, hb, hz, q⟩
  subst e1 e2
  obtain rfl : v = Value.ref a := rx
  rw [Vals.ref1 rs]
  obtain ⟨z1, h1, vs1, r1, d1⟩ := dk_of I.hok ha
  obtain ⟨z2, h2, vs2, r2, d2⟩ := dk_of I.hok hb
  refine call_meetsIn PySem.F.slot_dict_update d1.typeIs PySem.F.entry_dict_update (PySem.F.args_dict_update_2 _ _) (meets_dict_update (mixKind X.prog X.w) a b ne h2) ⟨vs1, vs2, d1, d2, (by rw [← r1.length, ← r2.length]; exact hz), fun h' m1 m2 sb => ?_⟩
  have he : ∃ q, h'.get? a = some q := let ⟨q, _, _, hq, _⟩ := m1; ⟨q, hq⟩
  have lz : (mergeK kvs more).length ≤ sizeLine := Nat.le_trans length_mergeK hz
  exact ⟨.non, _, d_write (t' := s.toks) I (by rw [ha]; exact True.intro) sb he (dk_new lz h1 (kv_merge r1 r2) m1), rfl, q⟩
def mUpd : WM := fun u vs μ P => ∃ (a b : Addr) (kvs more : List (Key × U)), u = .r a ∧ vs = [.r b] ∧ a ≠ b ∧ μ a = some (.dct kvs) ∧ μ b = some (.dct more) ∧ kvs.length + more.length ≤ sizeLine ∧ P (.d .none) (put μ a (.dct (mergeU kvs more)))
def isD (μ : Mu) (u : U) : Prop := ∃ a kvs, u = .r a ∧ μ a = some (.dct kvs)
def wMD (s : WM) (o : WX) (w : WL) : WX := fun ρ μ P => o ρ μ fun u μ1 => isD μ1 u ∧ w ρ μ1 fun us μ2 => s u us μ2 P
section
variable {K : Fg} {X : Cx} {o e : Expr} {es : List Expr} {to : TE} {wo : WX} {t : TA} {w : WL} {apos cpos : Pos} {r : V → List V → Hp → VK → Prop} {s : WM}
theorem rm_upd : RM K rUpd mUpd := fun F G H μ x vs u us P Q S rx rv ⟨a, b, kvs, more, e1, e2, ne, ha, hb, hz, p⟩ q => by
  subst e1 e2
  obtain ⟨v, rfl, q1⟩ := rus1 rv
  obtain ⟨g1, kws, h1, h2⟩ := S.mu _ _ ha
  obtain ⟨g2, mws, h3, h4⟩ := S.mu _ _ hb
  obtain rfl : x = V.ref a := rx
  obtain rfl : v = V.ref b := q1
  refine ⟨a, b, kws, mws, rfl, rfl, ne, h1, h3, by rw [rkv_len h2, rkv_len h4]; exact hz, ?_⟩
  exact q .non (.d .none) G _ _ (Ext.refl G) (S.write (m' := .dct (mergeU kvs more)) ha ⟨mergeK kws mws, upd_same, rkv_merge h2 h4⟩) Rp.non p
theorem isD_ty {F G H : Hp} {μ : Mu} {v : V} {u : U} (S : St3 K F G H μ) (q : Ru K G v u) (h : isD μ u) : tyV K "dict" v H := by
  obtain ⟨a, kvs, rfl, h⟩ := h
  obtain ⟨_, kws, h1, _⟩ := S.mu _ _ h
  obtain rfl : v = V.ref a := q
  exact .inr (.inr (.inl ⟨rfl, .inl ⟨kws, h1⟩⟩))
theorem re_bmD (hr : RM K r s) (ho : RE K to wo) (ha : RA K t w) : RE K (tBM K "dict" r to t) (wMD s wo w) := fun F G H μ σ ρ P Q S x q => ho F G H μ σ ρ _ _ S x fun v u G1 H1 μ1 e1 S1 r1 ⟨hl, p⟩ =>
  ⟨isD_ty S1 r1 hl, ha F G1 H1 μ1 σ ρ _ _ (S.mono e1 S1) p fun vs us G2 H2 μ2 e2 S2 r2 p2 => hr F G2 H2 μ2 v vs u us P Q S2 (r1.mono e2) r2 p2 fun v u G3 H3 μ3 e3 S3 r3 p3 => q v u G3 H3 μ3 ((e1.trans e2).trans e3) S3 r3 p3⟩
theorem w_update (ho : WE X o to wo) (ha : WAr X [e] t w)
    (hbase : attributeBase o "update" X.env (eval o X.env) = eval o X.env := by rfl)
    (hfew : ((backTo cpos (starEach [e] X.env)).all (fun x => !x.1) && (backToKw cpos (keywordEach [] X.env)).all (fun x => x.1.isSome)
      && decide (([e] : List Expr).length + ([] : List Keyword).length + (if ([] : List Keyword).isEmpty then 0 else 1) < 30)) = true := by rfl)
    (hline : (apos.endLine == cpos.line) = true := by rfl) (hs : starEach [e] X.env = (false, eval e X.env) :: starEach [] X.env := by rfl) (hplain : (backTo cpos (starEach [] X.env)).any (·.1) = false := by rfl) :
    WE X (.Call (.Attribute o "update" apos) [e] [] cpos) (tBM X.K "dict" rUpd to t) (wMD mUpd wo w) := ⟨pe_bm PySem.F.plainAttrs_dict PySem.F.slot_dict_update PySem.F.type_dict_update mt_update ho.pe ha.pa hbase hfew hline hs hplain, re_bmD rm_upd ho.re ha.ra⟩
end
end L3

/-! dict comprehensions -/
namespace L3
open PySem PySem.Spec PyProof.Rows L2
def dcGo (g : WTg) (wt : WB) (wk wv : WX) (Al : Mu → Prop) : List U → List (Key × U) → Rho → Mu → (List (Key × U) → Mu → Prop) → Prop
  | [], acc, _, μ, P => Al μ ∧ P acc μ
  | u :: us, acc, ρ, μ, P => Al μ ∧ g u ρ μ fun ρ1 μ1 => wt ρ1 μ1 fun b μ2 => if b = true then wk ρ1 μ2 fun k μ3 => wv ρ1 μ3 fun y μ4 => ∃ j, k = kU j ∧ acc.length < sizeLine ∧ dcGo g wt wk wv Al us (putU acc j y) ρ μ4 P
    else dcGo g wt wk wv Al us acc ρ μ2 P
def wDc (it : WIt) (vs : List Nat) (g : WTg) (wt : WB) (wk wv : WX) : WX := fun ρ μ P => it ρ μ fun us Al μ1 => dcGo g wt wk wv Al us [] (wipeR ρ vs) μ1 fun kvs μ2 => ∀ p, μ2 p = none → P (.r p) (put μ2 p (.dct kvs))
section
variable {K : Fg} {wi : TI} {wj : WIt} {g : TG} {wg : WTg} {tt : TT} {wt : WB} {tk tv : TE} {wk wv : WX} {vs : List Nat}
theorem re_dc (hi : RI K wi wj) (hg : RG K g wg) (go : GOnly g vs) (ht : RT K tt wt) (hk : RE K tk wk) (he : RE K tv wv) : RE K (tDc wi g tt tk tv vs) (wDc wj vs wg wt wk wv) := fun F G H μ σ ρ P Q S w q => by
  refine hi F G H μ σ ρ _ _ S w fun J us Al G0 H0 μ0 e0 S0 jw p D hD => ?_
  have hFD := S0.fnone hD
  refine ⟨fun i m H => m = us.length - i ∧ i ≤ us.length ∧ ∃ G1 μ acc ys, Ext G0 G1 ∧ St3 K (upd F D (.dK acc)) G1 H μ ∧ Rkv K G1 acc ys ∧ dcGo wg wt wk wv Al (us.drop i) ys (wipeR ρ vs) μ fun kvs μ2 => ∀ p, μ2 p = none → P (.r p) (put μ2 p (.dct kvs)),
    ⟨us.length, by simp, Nat.zero_le _, G0, μ0, [], [], Ext.refl _, S0.newF hD, .nil, p⟩, ?_⟩
  rintro i m H1 ⟨rfl, hi, G1, μ1, acc, ys, e1, S1, r1, w1⟩
  by_cases hlt : i < us.length
  · have hd : us.drop i = us[i] :: us.drop (i + 1) := List.drop_eq_getElem_cons hlt
    rw [hd] at w1
    obtain ⟨al, w1⟩ := w1
    obtain ⟨_, hu⟩ := jw _ G1 H1 μ1 e1 S1 al i
    obtain ⟨hgo, hy⟩ := hu us[i] (List.getElem?_eq_getElem hlt)
    let Nx : Hp → Prop := fun H => ∃ G1 μ acc ys, Ext G0 G1 ∧ St3 K (upd F D (.dK acc)) G1 H μ ∧ Rkv K G1 acc ys ∧ dcGo wg wt wk wv Al (us.drop (i + 1)) ys (wipeR ρ vs) μ fun kvs μ2 => ∀ p, μ2 p = none → P (.r p) (put μ2 p (.dct kvs))
    refine .inr ⟨hgo, Nx, fun H' z => ⟨us.length - (i + 1), by omega, rfl, hlt, z⟩, fun x H2 yl => ?_⟩
    obtain ⟨G2, e2, S2, r2⟩ := hy x H2 yl
    have Sw : Sim K (upd F D (.dK acc)) G2 H2 μ1 (wipe σ vs) (wipeR ρ vs) := ⟨S2, (S.wipe vs).len, fun j u h => by
      obtain ⟨v, h1, h2⟩ := (S.wipe vs).sl j u h
      exact ⟨v, h1, h2.mono ((e0.trans e1).trans e2)⟩⟩
    have key := go x (wipe σ vs) H2 _ (hg _ G2 H2 μ1 (wipe σ vs) (wipeR ρ vs) x us[i] _ (fun σ3 H3 => tt σ3 H3 fun b H3 =>
      if b = true then tk σ3 H3 fun y H4 => tv σ3 H4 fun z H5 => ∃ kvs k, y = kV k ∧ H5 D = some (.dK kvs) ∧ kvs.length < sizeLine ∧ Nx (upd H5 D (.dK (putK kvs k z))) else Nx H3) Sw r2 w1 fun σ3 G3 H3 ρ3 μ3 e3 S3 w3 => ?_)
    · rw [wipe_wipe] at key
      exact key
    · refine ht _ G3 H3 μ3 σ3 ρ3 _ _ S3 w3 fun b G4 H4 μ4 e4 S4 w4 => ?_
      cases b with
      | true =>
        show tk σ3 H4 _
        refine hk _ G4 H4 μ4 σ3 ρ3 _ _ (S3.mono e4 S4) w4 fun y u G5 H5 μ5 e5 S5 r5 w5 => ?_
        refine he _ G5 H5 μ5 σ3 ρ3 _ _ (S3.mono (e4.trans e5) S5) w5 fun z t G6 H6 μ6 e6 S6 r6 ⟨j, ej, hz, w6⟩ => ?_
        subst ej
        obtain ⟨hD6, _, _⟩ := S6.fr D _ upd_same
        have e16 : Ext G1 G6 := (((e2.trans e3).trans e4).trans e5).trans e6
        exact ⟨acc, j, ru_key r5, hD6, by rw [rkv_len r1]; exact hz, G6, μ6, _, _, e1.trans e16, S6.setF, rkv_put r6 (r1.mono e16), w6⟩
      | false => exact ⟨G4, μ4, acc, ys, ((e1.trans e2).trans e3).trans e4, S4, r1.mono ((e2.trans e3).trans e4), w4⟩
  · have hd : us.drop i = [] := List.drop_eq_nil_of_le (by omega)
    rw [hd] at w1
    obtain ⟨al, w1⟩ := w1
    obtain ⟨hs, _⟩ := jw _ G1 H1 μ1 e1 S1 al i
    obtain ⟨h1, h2, h3⟩ := S1.fr D _ upd_same
    exact .inl ⟨hs (by omega), q (.ref D) (.r D) G1 H1 _ (e0.trans e1) (S1.unFM (m := .dct ys) hFD ⟨acc, h1, r1⟩) rfl (w1 D h3)⟩
end
section
variable {X : Cx} {kx vx tg iter : Expr} {ifs : List Expr} {scope : Scope} {pos : Pos} {wi : TI} {wj : WIt} {g : TG} {wg : WTg} {tt : TT} {wt : WB} {tk tv : TE} {wk wv : WX}
theorem w_dc1 (v : Str) (k : Nat) (hc : X.calm = true) (hN : X.N.Nodup) (hi : WI X tg iter wi wj) (ok : BlkOk X.N X.env.scope scope [(v, k)]) (go : GOnly g [k])
    (_ : WG (X.blk X.s_0 X.H_0 scope (compEnvC scope [] 0 X.env) []) tg g wg) (_ : WTs (X.blk X.s_0 X.H_0 scope (compEnvC scope [] 0 X.env) []) ifs tt wt) (_ : WE (X.blk X.s_0 X.H_0 scope (compEnvC scope [] 0 X.env) []) kx tk wk) (_ : WE (X.blk X.s_0 X.H_0 scope (compEnvC scope [] 0 X.env) []) vx tv wv)
    (hg : ∀ (s : Shared) (H : Hp) (C : Addr) (cl : List (Str × Addr)) (fp : List Addr), WG (X.blk s H scope (compEnvC scope cl C X.env) fp) tg g wg) (ht : ∀ (s : Shared) (H : Hp) (C : Addr) (cl : List (Str × Addr)) (fp : List Addr), WTs (X.blk s H scope (compEnvC scope cl C X.env) fp) ifs tt wt)
    (hk : ∀ (s : Shared) (H : Hp) (C : Addr) (cl : List (Str × Addr)) (fp : List Addr), WE (X.blk s H scope (compEnvC scope cl C X.env) fp) kx tk wk)
    (he : ∀ (s : Shared) (H : Hp) (C : Addr) (cl : List (Str × Addr)) (fp : List Addr), WE (X.blk s H scope (compEnvC scope cl C X.env) fp) vx tv wv) (hs : ∀ x, foldedSetIterable iter X.env x = pure x := by intro _; rfl) :
    WE X (.DictComp kx vx [⟨tg, iter, ifs, 0⟩] scope pos) (tDc wi g tt tk tv [k]) (wDc wj [k] wg wt wk wv) :=
  ⟨pe_dc (own := [(v, k)]) hc hN hi.pi ok (fun s H C cl fp => (hg s H C cl fp).pg) (fun s H C cl fp => (ht s H C cl fp).pt) (fun s H C cl fp => (hk s H C cl fp).pe) (fun s H C cl fp => (he s H C cl fp).pe) hs,
    re_dc hi.ri (hg X.s_0 X.H_0 0 [] []).rg go (ht X.s_0 X.H_0 0 [] []).rt (hk X.s_0 X.H_0 0 [] []).re (he X.s_0 X.H_0 0 [] []).re⟩
end
/-! ### a temporary thing forgotten behind a statement -/
def wDropF (w : L3.WX) : WSt := fun B ρ μ => w ρ μ fun _ μ1 => ∃ μ2 : Mu, (∀ a m, μ2 a = some m → μ1 a = some m) ∧ B.nx ρ μ2
theorem St3.less {K : Fg} {F G H : Hp} {μ μ2 : Mu} (S : St3 K F G H μ) (h : ∀ a m, μ2 a = some m → μ a = some m) : St3 K F G H μ2 := by
  refine ⟨S.sub, fun a o e => ?_, fun a m e => S.mu a m (h a m e)⟩
  obtain ⟨h1, h2, h3⟩ := S.fr a o e
  refine ⟨h1, h2, ?_⟩
  cases q : μ2 a with
  | none => rfl
  | some m =>
    rw [h a m q] at h3
    cases h3
theorem w_exprF {X : Cx} {e : Expr} {pos : Pos} {te : TE} {we : L3.WX} (h : WE X e te we) (hs : swapsWith e none pos.line X.env = pure false := by rfl) : WS X (.Expr e pos) (tDrop te) (wDropF we) :=
  ⟨ps_expr h.pe hs, fun F G H μ σ ρ D B S L w => h.re F G H μ σ ρ _ _ S w fun v u G1 H1 μ1 e1 S1 r1 ⟨μ2, k, p⟩ => L.nx σ G1 H1 ρ μ2 e1 (S.mono e1 (S1.less k)) p⟩
theorem dcGo_inv {g : WTg} {wt : WB} {wk wv : L3.WX} {Al : Mu → Prop} {us : List U} {ρ : Rho} {μ : Mu} {P : List (Key × U) → Mu → Prop} (I : Nat → List (Key × U) → Mu → Prop) (h0 : I 0 [] μ) (al : ∀ j acc μ, I j acc μ → Al μ)
    (step : ∀ (j : Nat) (hj : j < us.length) (acc : List (Key × U)) (μ : Mu) (N : List (Key × U) → Mu → Prop), I j acc μ → (∀ acc' μ', I (j + 1) acc' μ' → N acc' μ') → g us[j] ρ μ fun ρ1 μ1 => wt ρ1 μ1 fun b μ2 => if b = true then wk ρ1 μ2 fun k μ3 => wv ρ1 μ3 fun y μ4 => ∃ j, k = kU j ∧ acc.length < sizeLine ∧ N (putU acc j y) μ4 else N acc μ2)
    (fin : ∀ acc μ, I us.length acc μ → P acc μ) : dcGo g wt wk wv Al us [] ρ μ P := by
  have key : ∀ (k j : Nat) (acc : List (Key × U)) (μ : Mu), us.length - j = k → j ≤ us.length → I j acc μ → dcGo g wt wk wv Al (us.drop j) acc ρ μ P := by
    intro k
    induction k with
    | zero =>
      intro j acc μ hk hj h
      have e : j = us.length := by omega
      subst e
      rw [List.drop_length]
      exact ⟨al _ _ _ h, fin _ _ h⟩
    | succ k ih =>
      intro j acc μ hk hj h
      have hj' : j < us.length := by omega
      rw [List.drop_eq_getElem_cons hj']
      exact ⟨al _ _ _ h, step j hj' acc μ _ h fun acc' μ' h' => ih (j + 1) acc' μ' (by omega) hj' h'⟩
  have := key us.length 0 [] μ (by omega) (Nat.zero_le _) h0
  rwa [List.drop_zero] at this
end L3

/-! lots of marks: all of them, the least ones -/
namespace Lt
open PySem PySem.Spec PyProof.Rows L2 L3 Cn
abbrev Lot := List Nat
/-- smaller lots first -/
def allG (ms : List Nat) (acc : List Lot) : List Lot := ms.foldl (fun acc m => acc ++ acc.map (· ++ [m])) acc
def allL (ms : List Nat) : List Lot := allG ms [[]]
theorem allL_snoc {ms : List Nat} {m : Nat} : allL (ms ++ [m]) = allL ms ++ (allL ms).map (· ++ [m]) := by
  unfold allL allG
  rw [List.foldl_append]
  rfl
def dbl (A : List Lot) (m : Nat) : List Lot := (List.range (2 * A.length)).map fun k => A.getD (k / 2) [] ++ if k % 2 = 1 then [m] else []
def setL (ms : List Nat) : List Lot := ms.foldl dbl [[]]
theorem setL_snoc {ms : List Nat} {m : Nat} : setL (ms ++ [m]) = dbl (setL ms) m := by
  unfold setL
  rw [List.foldl_append]
  rfl
theorem snoc_ind {P : List Nat → Prop} (h0 : P []) (h1 : ∀ ms m, P ms → P (ms ++ [m])) (ms : List Nat) : P ms := by
  have go : ∀ (n : Nat) (ms : List Nat), ms.length = n → P ms := fun n => by
    induction n with
    | zero => intro ms e; rw [List.length_eq_zero_iff.mp e]; exact h0
    | succ n ih =>
      intro ms e
      have ne : ms ≠ [] := fun q => by rw [q] at e; cases e
      rw [← List.dropLast_concat_getLast ne]
      exact h1 _ _ (ih _ (by rw [List.length_dropLast]; omega))
  exact go _ ms rfl
theorem sub_snoc {l ms : List Nat} {m : Nat} : l.Sublist (ms ++ [m]) ↔ l.Sublist ms ∨ ∃ t, l = t ++ [m] ∧ t.Sublist ms := by
  rw [List.sublist_append_iff]
  constructor
  · rintro ⟨a, b, rfl, h1, h2⟩
    have h : b = [] ∨ b = [m] := by
      cases h2 with
      | cons _ h => exact .inl (List.sublist_nil.mp h)
      | cons_cons _ h => exact .inr (by rw [List.sublist_nil.mp h])
    rcases h with h | h
    · subst h
      exact .inl (by rw [List.append_nil]; exact h1)
    · subst h
      exact .inr ⟨a, rfl, h1⟩
  · rintro (h | ⟨t, rfl, h⟩)
    · exact ⟨l, [], by simp, h, List.nil_sublist _⟩
    · exact ⟨t, [m], rfl, h, List.Sublist.refl _⟩
theorem allL_mem : ∀ {ms : List Nat} {l : Lot}, l ∈ allL ms ↔ l.Sublist ms := fun {ms} => by
  induction ms using snoc_ind with
  | h0 =>
    intro l
    show l ∈ [[]] ↔ _
    rw [List.mem_singleton, List.sublist_nil]
  | h1 ms m ih =>
    intro l
    rw [allL_snoc, List.mem_append, ih, sub_snoc, List.mem_map]
    refine or_congr Iff.rfl ⟨fun ⟨t, h, e⟩ => ⟨t, e.symm, ih.mp h⟩, fun ⟨t, e, h⟩ => ⟨t, ih.mpr h, e.symm⟩⟩
/-- marks that rise -/
def Up (ms : List Nat) : Prop := ms.Pairwise (· < ·)
theorem Up.sub {l ms : List Nat} (h : Up ms) (s : l.Sublist ms) : Up l := h.sublist s
theorem up_snoc {ms : List Nat} {m : Nat} (h : Up (ms ++ [m])) : Up ms ∧ ∀ x ∈ ms, x < m := ⟨(List.pairwise_append.mp h).1, fun x hx => (List.pairwise_append.mp h).2.2 x hx m (List.mem_singleton.mpr rfl)⟩
theorem up_nd {ms : List Nat} (h : Up ms) : ms.Nodup := h.imp fun a => Nat.ne_of_lt a
theorem up_ext {a b : List Nat} (ha : Up a) (hb : Up b) (h1 : a ⊆ b) (h2 : b ⊆ a) : a = b := by
  refine uniq_sorted (r := (· < ·)) (fun x _ y _ p q => absurd p (Nat.lt_asymm q)) ha hb ((List.perm_ext_iff_of_nodup (up_nd ha) (up_nd hb)).mpr fun x => ⟨fun h => h1 h, fun h => h2 h⟩)
theorem up_sub : ∀ {z y : List Nat}, Up z → Up y → z ⊆ y → z.Sublist y
  | [], _, _, _, _ => List.nil_sublist _
  | a :: z, [], _, _, h => nomatch h (List.mem_cons_self ..)
  | a :: z, b :: y, hz, hy, h => by
    have hz' := List.pairwise_cons.mp hz
    have hy' := List.pairwise_cons.mp hy
    rcases List.mem_cons.mp (h (List.mem_cons_self (a := a) (l := z))) with e | e
    · subst e
      refine List.Sublist.cons_cons _ (up_sub hz'.2 hy'.2 fun x hx => ?_)
      rcases List.mem_cons.mp (h (List.mem_cons_of_mem _ hx)) with k | k
      · have := hz'.1 x hx
        omega
      · exact k
    · have lt := hy'.1 a e
      refine List.Sublist.cons _ (up_sub hz hy'.2 fun x hx => ?_)
      rcases List.mem_cons.mp (h hx) with k | k
      · rcases List.mem_cons.mp hx with q | q
        · omega
        · have := hz'.1 x q
          omega
      · exact k
/-- no later lot lies within an earlier one -/
theorem allL_ord : ∀ {ms : List Nat}, Up ms → (allL ms).Pairwise fun a b => ¬ b ⊆ a := fun {ms} => by
  induction ms using snoc_ind with
  | h0 => exact fun _ => List.pairwise_singleton _ _
  | h1 ms m ih =>
    intro h
    obtain ⟨h1, h2⟩ := up_snoc h
    have out : ∀ l ∈ allL ms, m ∉ l := fun l hl hm => Nat.lt_irrefl _ (h2 m ((allL_mem.mp hl).subset hm))
    rw [allL_snoc]
    have up : ((allL ms).map (· ++ [m])).Pairwise fun a b => ¬ b ⊆ a := by
      refine List.pairwise_map.mpr (List.Pairwise.imp_of_mem ?_ (ih h1))
      intro a b ha hb n s
      refine n fun x hx => ?_
      rcases List.mem_append.mp (s (List.mem_append_left _ hx)) with k | k
      · exact k
      · rw [List.mem_singleton.mp k] at hx
        exact absurd hx (out b hb)
    refine List.pairwise_append.mpr ⟨ih h1, up, ?_⟩
    intro a ha b hb s
    obtain ⟨t, _, rfl⟩ := List.mem_map.mp hb
    exact out a ha (s (List.mem_append_right _ (List.mem_singleton.mpr rfl)))
theorem allL_nd {ms : List Nat} (h : Up ms) : (allL ms).Nodup := (allL_ord h).imp fun n e => n (by rw [e]; exact fun _ h => h)
theorem allL_len {ms : List Nat} : (allL ms).length = 2 ^ ms.length := by
  induction ms using snoc_ind with
  | h0 => rfl
  | h1 ms m ih =>
    rw [allL_snoc, List.length_append, List.length_map, ih, List.length_append, List.length_singleton, Nat.pow_succ]
    omega
/-! ### the law's own settings -/
theorem dbl_len {A : List Lot} {m : Nat} : (dbl A m).length = 2 * A.length := by
  unfold dbl
  rw [List.length_map, List.length_range]
theorem dbl_get {A : List Lot} {m k : Nat} (h : k < 2 * A.length) : (dbl A m)[k]? = some (A.getD (k / 2) [] ++ if k % 2 = 1 then [m] else []) := by
  unfold dbl
  rw [List.getElem?_map, List.getElem?_range h]
  rfl
theorem setL_len {ms : List Nat} : (setL ms).length = 2 ^ ms.length := by
  induction ms using snoc_ind with
  | h0 => rfl
  | h1 ms m ih => rw [setL_snoc, dbl_len, ih, List.length_append, List.length_singleton, Nat.pow_succ, Nat.mul_comm]
theorem idx_snoc : ∀ {bs : List Bool} {b : Bool}, idx (bs ++ [b]) = 2 * idx bs + if b = true then 1 else 0
  | [], b => by cases b <;> rfl
  | c :: bs, b => by
    show (if c = true then 2 ^ (bs ++ [b]).length else 0) + idx (bs ++ [b]) = 2 * ((if c = true then 2 ^ bs.length else 0) + idx bs) + _
    rw [idx_snoc, List.length_append, List.length_singleton, Nat.pow_succ]
    cases c
    · simp
    · simp only [if_true]; omega
theorem setL_at : ∀ {ms : List Nat} {j : Nat} {t : Lot}, Up ms → (setL ms)[j]? = some t → t.Sublist ms ∧ idx (ms.map fun k => decide (k ∈ t)) = j := fun {ms} => by
  induction ms using snoc_ind with
  | h0 =>
    intro j t _ e
    have e : ([[]] : List Lot)[j]? = some t := e
    match j, e with
    | 0, e => cases e; exact ⟨List.Sublist.refl _, rfl⟩
  | h1 ms m ih =>
    intro j t h e
    obtain ⟨h1, h2⟩ := up_snoc h
    rw [setL_snoc] at e
    have lt : j < 2 * (setL ms).length := by
      have := (List.getElem?_eq_some_iff.mp e).1
      rwa [dbl_len] at this
    rw [dbl_get lt] at e
    have e := Option.some.inj e
    have lt2 : j / 2 < (setL ms).length := by omega
    obtain ⟨k1, k2⟩ := ih h1 (List.getElem?_eq_getElem lt2)
    have ed : (setL ms).getD (j / 2) [] = (setL ms)[j / 2] := by
      rw [List.getD_eq_getElem?_getD, List.getElem?_eq_getElem lt2]
      rfl
    rw [ed] at e
    generalize (setL ms)[j / 2] = a at e k1 k2
    have no : m ∉ a := fun hm => Nat.lt_irrefl _ (h2 m (k1.subset hm))
    subst e
    refine ⟨?_, ?_⟩
    · split
      · exact k1.append (List.Sublist.refl _)
      · rw [List.append_nil]; exact k1.trans (List.sublist_append_left _ _)
    · rw [List.map_append, List.map_singleton, idx_snoc]
      have e1 : (ms.map fun k => decide (k ∈ a ++ if j % 2 = 1 then [m] else [])) = ms.map fun k => decide (k ∈ a) := List.map_congr_left fun k hk => by
        have ne : k ≠ m := Nat.ne_of_lt (h2 k hk)
        by_cases q : j % 2 = 1
        · simp [q, ne]
        · simp [q]
      rw [e1, k2]
      by_cases q : j % 2 = 1
      · simp [q]; omega
      · simp [q, no]; omega
theorem setL_mem : ∀ {ms : List Nat} {t : Lot}, Up ms → (t ∈ setL ms ↔ t.Sublist ms) := fun {ms} => by
  induction ms using snoc_ind with
  | h0 =>
    intro t _
    show t ∈ [[]] ↔ _
    rw [List.mem_singleton, List.sublist_nil]
  | h1 ms m ih =>
    intro t h
    constructor
    · intro ht
      obtain ⟨j, e⟩ := List.getElem?_of_mem ht
      exact (setL_at h e).1
    · intro ht
      obtain ⟨h1, h2⟩ := up_snoc h
      have put : ∀ (a : Lot) (b : Bool), a ∈ setL ms → (a ++ if b = true then [m] else []) ∈ setL (ms ++ [m]) := fun a b ha => by
        obtain ⟨i, e⟩ := List.getElem?_of_mem ha
        have lt := (List.getElem?_eq_some_iff.mp e).1
        rw [setL_snoc]
        have g : (setL ms).getD i [] = a := by rw [List.getD_eq_getElem?_getD, e]; rfl
        cases b with
        | true =>
          refine List.mem_of_getElem? (i := 2 * i + 1) ?_
          rw [dbl_get (by omega), show (2 * i + 1) / 2 = i by omega, g, if_pos (by omega)]
          rfl
        | false =>
          refine List.mem_of_getElem? (i := 2 * i) ?_
          rw [dbl_get (by omega), show (2 * i) / 2 = i by omega, g, if_neg (by omega)]
          rfl
      rcases sub_snoc.mp ht with k | ⟨a, rfl, k⟩
      · have := put t false ((ih h1).mpr k)
        simpa using this
      · exact put a true ((ih h1).mpr k)
theorem setL_nd {ms : List Nat} (h : Up ms) : (setL ms).Nodup := by
  refine List.pairwise_iff_getElem.mpr fun i j hi hj lt e => ?_
  have h1 := (setL_at h (List.getElem?_eq_getElem hi)).2
  have h2 := (setL_at h (List.getElem?_eq_getElem hj)).2
  rw [e] at h1
  omega
/-! ### the least ones -/
structure Lst (B : Lot → Bool) (P : List Lot) (x : Lot) : Prop where
  mem : x ∈ P
  yes : B x = true
  least : ∀ y ∈ P, B y = true → y ⊆ x → y = x
def stepF (B : Lot → Bool) (found : List Lot) (l : Lot) : List Lot := if B l = true ∧ ∀ x ∈ found, ¬ x ⊆ l then found ++ [l] else found
/-- among the lots of a list that hold and lie within one there is a least one -/
theorem some_least {B : Lot → Bool} {ms : List Nat} {P : List Lot} (hu : Up ms) (hp : ∀ l ∈ P, l.Sublist ms) : ∀ (n : Nat) (y : Lot), y.length ≤ n → y ∈ P → B y = true → ∃ x, Lst B P x ∧ x ⊆ y := fun n => by
  induction n with
  | zero =>
    intro y hn hy hb
    refine ⟨y, ⟨hy, hb, fun z hz _ s => ?_⟩, fun _ h => h⟩
    have : y = [] := List.length_eq_zero_iff.mp (by omega)
    subst this
    exact List.eq_nil_of_subset_nil s
  | succ n ih =>
    intro y hn hy hb
    by_cases h : ∀ z ∈ P, B z = true → z ⊆ y → z = y
    · exact ⟨y, ⟨hy, hb, h⟩, fun _ h => h⟩
    · have h : ∃ z, z ∈ P ∧ B z = true ∧ z ⊆ y ∧ z ≠ y := Classical.byContradiction fun k => h fun z h1 h2 h3 => Classical.byContradiction fun h4 => k ⟨z, h1, h2, h3, h4⟩
      obtain ⟨z, z1, z2, z3, z4⟩ := h
      have uz := hu.sub (hp z z1)
      have uy := hu.sub (hp y hy)
      have sp := up_sub uz uy z3
      have lt : z.length < y.length := Nat.lt_of_le_of_ne sp.length_le fun k => z4 (sp.eq_of_length k)
      obtain ⟨x, h1, h2⟩ := ih z (by omega) z1 z2
      exact ⟨x, h1, fun a ha => z3 (h2 ha)⟩
structure Fnd (B : Lot → Bool) (P found : List Lot) : Prop where
  sub : found.Sublist P
  mem : ∀ x, x ∈ found ↔ Lst B P x
theorem fnd_nil {B : Lot → Bool} : Fnd B [] [] := ⟨List.Sublist.refl _, fun x => ⟨fun h => (nomatch h), fun h => (nomatch h.mem)⟩⟩
theorem fnd_step {B : Lot → Bool} {ms : List Nat} {P found : List Lot} {l : Lot} (hu : Up ms) (hp : ∀ x ∈ P, x.Sublist ms) (ord : ∀ a ∈ P, ¬ l ⊆ a) (h : Fnd B P found) : Fnd B (P ++ [l]) (stepF B found l) := by
  have any : (∀ x ∈ found, ¬ x ⊆ l) ↔ ∀ y ∈ P, B y = true → ¬ y ⊆ l := by
    constructor
    · intro k y hy hb s
      obtain ⟨x, h1, h2⟩ := some_least hu hp y.length y (Nat.le_refl _) hy hb
      exact k x ((h.mem x).mpr h1) fun a ha => s (h2 ha)
    · intro k x hx
      have q := (h.mem x).mp hx
      exact k x q.mem q.yes
  unfold stepF
  split
  · rename_i c
    obtain ⟨c1, c2⟩ := c
    have c2 := any.mp c2
    refine ⟨h.sub.append (List.Sublist.refl _), fun x => ?_⟩
    rw [List.mem_append, List.mem_singleton, h.mem]
    constructor
    · rintro (k | rfl)
      · refine ⟨List.mem_append_left _ k.mem, k.yes, fun y hy hb s => ?_⟩
        rcases List.mem_append.mp hy with hy | hy
        · exact k.least y hy hb s
        · rw [List.mem_singleton.mp hy] at s
          exact absurd s (ord x k.mem)
      · refine ⟨List.mem_append_right _ (List.mem_singleton.mpr rfl), c1, fun y hy hb s => ?_⟩
        rcases List.mem_append.mp hy with hy | hy
        · exact absurd s (c2 y hy hb)
        · exact List.mem_singleton.mp hy
    · intro k
      rcases List.mem_append.mp k.mem with m | m
      · exact .inl ⟨m, k.yes, fun y hy hb s => k.least y (List.mem_append_left _ hy) hb s⟩
      · exact .inr (List.mem_singleton.mp m)
  · rename_i c
    refine ⟨h.sub.trans (List.sublist_append_left _ _), fun x => ?_⟩
    rw [h.mem]
    constructor
    · intro k
      refine ⟨List.mem_append_left _ k.mem, k.yes, fun y hy hb s => ?_⟩
      rcases List.mem_append.mp hy with hy | hy
      · exact k.least y hy hb s
      · rw [List.mem_singleton.mp hy] at s
        exact absurd s (ord x k.mem)
    · intro k
      rcases List.mem_append.mp k.mem with m | m
      · exact ⟨m, k.yes, fun y hy hb s => k.least y (List.mem_append_left _ hy) hb s⟩
      · have m := List.mem_singleton.mp m
        subst m
        refine absurd ⟨k.yes, any.mpr fun y hy hb s => ?_⟩ c
        have e := k.least y (List.mem_append_left _ hy) hb s
        subst e
        exact ord y hy fun _ h => h
theorem fnd_all {B : Lot → Bool} {ms : List Nat} (hu : Up ms) {j : Nat} (hj : j < (allL ms).length) {found : List Lot} (h : Fnd B ((allL ms).take j) found) : Fnd B ((allL ms).take (j + 1)) (stepF B found (allL ms)[j]) := by
  rw [List.take_succ_eq_append_getElem hj]
  refine fnd_step hu (fun x hx => allL_mem.mp (List.mem_of_mem_take hx)) (fun a ha => ?_) h
  have o : ((allL ms).take j ++ (allL ms).drop j).Pairwise fun a b => ¬ b ⊆ a := by rw [List.take_append_drop]; exact allL_ord hu
  rw [List.drop_eq_getElem_cons hj] at o
  exact (List.pairwise_append.mp o).2.2 a ha _ (List.mem_cons_self ..)
open Classical in
noncomputable def minL (L : List Lot) : List Lot := L.filter fun x => decide (∀ y ∈ L, y ≠ x → ¬ y ⊆ x)
open Classical in
theorem min_fnd {B : Lot → Bool} {ms : List Nat} {found : List Lot} (hu : Up ms) (h : Fnd B (allL ms) found) : found.Perm (minL ((setL ms).filter B)) := by
  have n1 : found.Nodup := (allL_nd hu).sublist h.sub
  have n2 : (minL ((setL ms).filter B)).Nodup := ((setL_nd hu).filter _).filter _
  refine (List.perm_ext_iff_of_nodup n1 n2).mpr fun x => ?_
  rw [h.mem]
  unfold minL
  rw [List.mem_filter, List.mem_filter, setL_mem hu, decide_eq_true_iff]
  constructor
  · intro k
    refine ⟨⟨allL_mem.mp k.mem, k.yes⟩, fun y hy ne s => ?_⟩
    obtain ⟨h1, h2⟩ := List.mem_filter.mp hy
    exact ne (k.least y (allL_mem.mpr ((setL_mem hu).mp h1)) h2 s)
  · rintro ⟨⟨h1, h2⟩, h3⟩
    refine ⟨allL_mem.mpr h1, h2, fun y hy hb s => Classical.byContradiction fun ne => ?_⟩
    exact h3 y (List.mem_filter.mpr ⟨(setL_mem hu).mpr (allL_mem.mp hy), hb⟩) ne s
end Lt

namespace K57
open PySem PySem.Spec PyProof.Rows L2 L3
def topS (i : Nat) : Stmt := PySem.Challenge.pw_eacharm_k57_outcomes_in_tables.main.body.getD i (.Pass ⟨0, 0, 0, 0⟩)

/-! ### either -/
abbrev s_p_either : Stmt := topS 1
abbrev N_p_either : List Str := ["condition", "other", "switch", "on", "off"]
theorem sc_p_either : FnScope N_p_either ["condition", "other"] (defScope s_p_either) := ⟨rfl, rfl, rfl, by decide +kernel, rfl, by decide +kernel, by decide +kernel⟩
def W_p_either (S_p_either : WF) (S_p__side : WF) (S_p__node : WF) : WSt :=
  (wSeq (wIfS (wOr (wB (wOp (sIs true id) (wV 0) (wC (.bool true)))) (wB (wOp (sIs true id) (wV 1) (wC (.bool true))))) (wRet (wC (.bool true))) wNext)
  (wSeq (wIfS (wB (wOp (sIs false id) (wV 0) (wC (.bool false)))) (wRet (wV 1)) wNext)
  (wSeq (wIfS (wB (wOp (sIs false id) (wV 1) (wC (.bool false)))) (wRet (wV 0)) wNext)
  (wSeq (wAsg (wQ qMinA (wCons (wOp sIx (wV 0) (wC (.int 0))) (wCons (wOp sIx (wV 1) (wC (.int 0))) wNil))) (gN 2))
  (wSeq (wAsg (wCall S_p_either (wCons (wCall S_p__side (wCons (wV 0) (wCons (wV 2) (wCons (wC (.bool true)) wNil)))) (wCons (wCall S_p__side (wCons (wV 1) (wCons (wV 2) (wCons (wC (.bool true)) wNil)))) wNil))) (gN 3))
  (wSeq (wAsg (wCall S_p_either (wCons (wCall S_p__side (wCons (wV 0) (wCons (wV 2) (wCons (wC (.bool false)) wNil)))) (wCons (wCall S_p__side (wCons (wV 1) (wCons (wV 2) (wCons (wC (.bool false)) wNil)))) wNil))) (gN 4))
  (wRet (wCall S_p__node (wCons (wV 2) (wCons (wV 3) (wCons (wV 4) wNil)))))))))))
theorem body_p_either {P : Program} {w : World} {K : Fg} {mg : Str → Option Value} {base : Heap} {k : Nat} {k_p_either : Nat} {S_p_either : WF} (c_p_either : C8.Cal P w K mg base k_p_either "either" (sp3 K S_p_either) []) (h_p_either : k_p_either ≤ k) {k_p__side : Nat} {S_p__side : WF} (c_p__side : C8.Cal P w K mg base k_p__side "_side" (sp3 K S_p__side) []) (h_p__side : k_p__side ≤ k) {k_p__node : Nat} {S_p__node : WF} (c_p__node : C8.Cal P w K mg base k_p__node "_node" (sp3 K S_p__node) []) (h_p__node : k_p__node ≤ k) (m_min : mg "min" = none)
    (cdv : Value) (f : Addr) (A : Around) (outer : List Env) (sh : Shared) (H : Hp) (E : XK) (hr : Room k (A.deeper (envOfC "either" (defScope s_p_either) sh.heap.objs.size f cdv))) :
    ∃ t, WSs (cxOf CX0 P w K mg base N_p_either "either" (defScope s_p_either) f cdv A outer sh H E).nox (defBody s_p_either) t (W_p_either S_p_either S_p__side S_p__node) := by
  have nd := sc_p_either.nd
  exact ⟨_, (w_scons (w_ifS (w_ww (w_or (w_isB (w_v 0)).t (w_or1 (w_isB (w_v 1)).t)))
 (w_sone (w_ret w_bl))
 w_snil)
 (w_scons (w_ifS (w_isB (w_v 0)).t
 (w_sone (w_ret (w_v 1)))
 w_snil)
 (w_scons (w_ifS (w_isB (w_v 1)).t
 (w_sone (w_ret (w_v 0)))
 w_snil)
 (w_scons (w_set 2 nd (w_min rfl (by rfl) m_min (w_cons (w_ix (w_v 0) w_int) (w_cons (w_ix (w_v 1) w_int) w_nil))))
 (w_scons (w_set 3 nd (w_call c_p_either hr h_p_either (by rfl) (w_cons (w_call c_p__side hr h_p__side (by rfl) (w_cons (w_v 0) (w_cons (w_v 2) (w_cons w_bl w_nil)))) (w_cons (w_call c_p__side hr h_p__side (by rfl) (w_cons (w_v 1) (w_cons (w_v 2) (w_cons w_bl w_nil)))) w_nil))))
 (w_scons (w_set 4 nd (w_call c_p_either hr h_p_either (by rfl) (w_cons (w_call c_p__side hr h_p__side (by rfl) (w_cons (w_v 0) (w_cons (w_v 2) (w_cons w_bl w_nil)))) (w_cons (w_call c_p__side hr h_p__side (by rfl) (w_cons (w_v 1) (w_cons (w_v 2) (w_cons w_bl w_nil)))) w_nil))))
 (w_sone (w_ret (w_call c_p__node hr h_p__node (by rfl) (w_cons (w_v 2) (w_cons (w_v 3) (w_cons (w_v 4) w_nil))))))))))))⟩
theorem bi_p_either {K : Fg} {f : Addr} {fd : FuncData} (Fd : FunD K "either" "either" (defArgs s_p_either) (defBody s_p_either) (defScope s_p_either) [] [] f fd) : Binds K fd ["condition", "other"] [] := FunD.bindsN Fd fun _ _ _ _ _ _ us hl => match us, hl with | [_, _], _ => rfl
theorem z_p_either {P : Program} {w : World} {K : Fg} {mg : Str → Option Value} {base : Heap} (D : Dn K mg "either" s_p_either) : C8.Cal P w K mg base 0 "either" (sp3 K fun _ _ _ => False) [] := D.zero bi_p_either
theorem fok_p_either {P : Program} {w : World} {K : Fg} {mg : Str → Option Value} {base : Heap} {k : Nat} {f : Addr} {fd : FuncData} (Fd : FunD K "either" "either" (defArgs s_p_either) (defBody s_p_either) (defScope s_p_either) [] [] f fd) {k_p_either : Nat} {S_p_either : WF} (c_p_either : C8.Cal P w K mg base k_p_either "either" (sp3 K S_p_either) []) (h_p_either : k_p_either ≤ k) {k_p__side : Nat} {S_p__side : WF} (c_p__side : C8.Cal P w K mg base k_p__side "_side" (sp3 K S_p__side) []) (h_p__side : k_p__side ≤ k) {k_p__node : Nat} {S_p__node : WF} (c_p__node : C8.Cal P w K mg base k_p__node "_node" (sp3 K S_p__node) []) (h_p__node : k_p__node ≤ k) (m_min : mg "min" = none) {s : WF} (len : ∀ us μ Q, s us μ Q → us.length = 2)
    (h : ∀ us μ Q, s us μ Q → W_p_either S_p_either S_p__side S_p__node (E3 μ Q) (start3 N_p_either us) μ) :
    FnOk P w K mg base C8.CX0 (k + 1) f fd ["condition", "other"] (sp3 K s) :=
  fn3F Fd sc_p_either len fun cdv A outer sh H E hr =>
    let ⟨t, ht⟩ := body_p_either c_p_either h_p_either c_p__side h_p__side c_p__node h_p__node m_min cdv f A outer sh H E hr
    ⟨t, _, ht, h⟩
theorem cal_p_either {P : Program} {w : World} {K : Fg} {mg : Str → Option Value} {base : Heap} {k : Nat} (D : Dn K mg "either" s_p_either) {k_p_either : Nat} {S_p_either : WF} (c_p_either : C8.Cal P w K mg base k_p_either "either" (sp3 K S_p_either) []) (h_p_either : k_p_either ≤ k) {k_p__side : Nat} {S_p__side : WF} (c_p__side : C8.Cal P w K mg base k_p__side "_side" (sp3 K S_p__side) []) (h_p__side : k_p__side ≤ k) {k_p__node : Nat} {S_p__node : WF} (c_p__node : C8.Cal P w K mg base k_p__node "_node" (sp3 K S_p__node) []) (h_p__node : k_p__node ≤ k) (m_min : mg "min" = none) {s : WF} (len : ∀ us μ Q, s us μ Q → us.length = 2)
    (h : ∀ us μ Q, s us μ Q → W_p_either S_p_either S_p__side S_p__node (E3 μ Q) (start3 N_p_either us) μ) :
    C8.Cal P w K mg base (k + 1) "either" (sp3 K s) [] := by
  obtain ⟨f, fd, Fd, hmg⟩ := D.ex
  exact ⟨f, fd, _, [], fok_p_either Fd c_p_either h_p_either c_p__side h_p__side c_p__node h_p__node m_min len h, hmg, Fd.kp, bi_p_either Fd, .nil⟩

/-! ### switches_of -/
abbrev s_p_switches_of : Stmt := topS 2
abbrev N_p_switches_of : List Str := ["condition", "found", "work", "part"]
theorem sc_p_switches_of : FnScope N_p_switches_of ["condition"] (defScope s_p_switches_of) := ⟨rfl, rfl, rfl, by decide +kernel, rfl, by decide +kernel, by decide +kernel⟩
def W_p_switches_of : WSt :=
  (wSeq (wAsg wDictN (gN 1))
  (wSeq (wAsg (wLstM (wCons (wV 0) wNil)) (gN 2))
  (wSeq (wWhile (wTru (wV 2)) (wSeq (wAsg (wML mPop (wV 2) wNil) (gN 3))
  (wIfS (wTru (wIsi "tuple" (wV 3))) (wSeq (wDPut (wV 1) (wOp sIx (wV 3) (wC (.int 0))) (wC (.bool true)))
  (wDrop (wML mExtend (wV 2) (wCons (wSl (wV 3) (wPart (wC (.int 1))) wNoPart) wNil)))) wNext)))
  (wRet (wQ qTuple (wCons (wQ qSortA (wCons (wV 1) wNil)) wNil))))))
theorem body_p_switches_of {P : Program} {w : World} {K : Fg} {mg : Str → Option Value} {base : Heap} {k : Nat} (m_isinstance : mg "isinstance" = none) (m_tuple : mg "tuple" = none) (m_sorted : mg "sorted" = none)
    (cdv : Value) (f : Addr) (A : Around) (outer : List Env) (sh : Shared) (H : Hp) (E : XK) (hr : Room k (A.deeper (envOfC "switches_of" (defScope s_p_switches_of) sh.heap.objs.size f cdv))) :
    ∃ t, WSs (cxOf CX0 P w K mg base N_p_switches_of "switches_of" (defScope s_p_switches_of) f cdv A outer sh H E).nox (defBody s_p_switches_of) t (W_p_switches_of) := by
  have nd := sc_p_switches_of.nd
  exact ⟨_, (w_scons (w_set 1 nd w_dictN)
 (w_scons (w_set 2 nd (w_lstM (w_cons (w_v 0) w_nil)))
 (w_scons (w_while PassesOwn.never (w_tru (w_v 2))
 (w_scons (w_set 3 nd (w_pop (w_v 2)))
 (w_sone (w_ifS (w_tru (w_isi (by rfl) m_isinstance boot_isinstance (by rfl) m_tuple boot_tuple' (w_v 3)))
 (w_scons (w_dput (hu_of hr) (w_v 1) (w_ix (w_v 3) w_int) w_bl)
 (w_sone (w_expr (w_extend (w_v 2) (w_cons (w_sl (w_v 3) (w_part w_int) w_noPart) w_nil)))))
 w_snil))))
 (w_sone (w_ret (w_tuplec (by rfl) m_tuple (w_cons (w_sorted rfl (by rfl) m_sorted (w_cons (w_v 1) w_nil)) w_nil)))))))⟩
theorem bi_p_switches_of {K : Fg} {f : Addr} {fd : FuncData} (Fd : FunD K "switches_of" "switches_of" (defArgs s_p_switches_of) (defBody s_p_switches_of) (defScope s_p_switches_of) [] [] f fd) : Binds K fd ["condition"] [] := FunD.bindsN Fd fun _ _ _ _ _ _ us hl => match us, hl with | [_], _ => rfl
theorem z_p_switches_of {P : Program} {w : World} {K : Fg} {mg : Str → Option Value} {base : Heap} (D : Dn K mg "switches_of" s_p_switches_of) : C8.Cal P w K mg base 0 "switches_of" (sp3 K fun _ _ _ => False) [] := D.zero bi_p_switches_of
theorem fok_p_switches_of {P : Program} {w : World} {K : Fg} {mg : Str → Option Value} {base : Heap} {k : Nat} {f : Addr} {fd : FuncData} (Fd : FunD K "switches_of" "switches_of" (defArgs s_p_switches_of) (defBody s_p_switches_of) (defScope s_p_switches_of) [] [] f fd) (m_isinstance : mg "isinstance" = none) (m_tuple : mg "tuple" = none) (m_sorted : mg "sorted" = none) {s : WF} (len : ∀ us μ Q, s us μ Q → us.length = 1)
    (h : ∀ us μ Q, s us μ Q → W_p_switches_of (E3 μ Q) (start3 N_p_switches_of us) μ) :
    FnOk P w K mg base C8.CX0 (k + 1) f fd ["condition"] (sp3 K s) :=
  fn3F Fd sc_p_switches_of len fun cdv A outer sh H E hr =>
    let ⟨t, ht⟩ := body_p_switches_of m_isinstance m_tuple m_sorted cdv f A outer sh H E hr
    ⟨t, _, ht, h⟩
theorem cal_p_switches_of {P : Program} {w : World} {K : Fg} {mg : Str → Option Value} {base : Heap} {k : Nat} (D : Dn K mg "switches_of" s_p_switches_of) (m_isinstance : mg "isinstance" = none) (m_tuple : mg "tuple" = none) (m_sorted : mg "sorted" = none) {s : WF} (len : ∀ us μ Q, s us μ Q → us.length = 1)
    (h : ∀ us μ Q, s us μ Q → W_p_switches_of (E3 μ Q) (start3 N_p_switches_of us) μ) :
    C8.Cal P w K mg base (k + 1) "switches_of" (sp3 K s) [] := by
  obtain ⟨f, fd, Fd, hmg⟩ := D.ex
  exact ⟨f, fd, _, [], fok_p_switches_of Fd m_isinstance m_tuple m_sorted len h, hmg, Fd.kp, bi_p_switches_of Fd, .nil⟩

/-! ### _side -/
abbrev s_p__side : Stmt := topS 3
abbrev N_p__side : List Str := ["condition", "switch", "on"]
theorem sc_p__side : FnScope N_p__side ["condition", "switch", "on"] (defScope s_p__side) := ⟨rfl, rfl, rfl, by decide +kernel, rfl, by decide +kernel, by decide +kernel⟩
def W_p__side : WSt :=
  (wSeq (wIfS (wAnd (wTru (wIsi "tuple" (wV 0))) (wB (wOp (sEqA id) (wOp sIx (wV 0) (wC (.int 0))) (wV 1)))) (wRet (wIf (wTru (wV 2)) (wOp sIx (wV 0) (wC (.int 1))) (wOp sIx (wV 0) (wC (.int 2))))) wNext)
  (wRet (wV 0)))
theorem body_p__side {P : Program} {w : World} {K : Fg} {mg : Str → Option Value} {base : Heap} {k : Nat} (m_isinstance : mg "isinstance" = none) (m_tuple : mg "tuple" = none)
    (cdv : Value) (f : Addr) (A : Around) (outer : List Env) (sh : Shared) (H : Hp) (E : XK) (hr : Room k (A.deeper (envOfC "_side" (defScope s_p__side) sh.heap.objs.size f cdv))) :
    ∃ t, WSs (cxOf CX0 P w K mg base N_p__side "_side" (defScope s_p__side) f cdv A outer sh H E).nox (defBody s_p__side) t (W_p__side) := by
  have nd := sc_p__side.nd
  exact ⟨_, (w_scons (w_ifS (w_ww (w_and (w_tru (w_isi (by rfl) m_isinstance boot_isinstance (by rfl) m_tuple boot_tuple' (w_v 0))) (w_and1 (w_eq hr.units (w_ix (w_v 0) w_int) (w_v 1)).t)))
 (w_sone (w_ret (w_if (w_tru (w_v 2)) (w_ix (w_v 0) w_int) (w_ix (w_v 0) w_int))))
 w_snil)
 (w_sone (w_ret (w_v 0))))⟩
theorem bi_p__side {K : Fg} {f : Addr} {fd : FuncData} (Fd : FunD K "_side" "_side" (defArgs s_p__side) (defBody s_p__side) (defScope s_p__side) [] [] f fd) : Binds K fd ["condition", "switch", "on"] [] := FunD.bindsN Fd fun _ _ _ _ _ _ us hl => match us, hl with | [_, _, _], _ => rfl
theorem z_p__side {P : Program} {w : World} {K : Fg} {mg : Str → Option Value} {base : Heap} (D : Dn K mg "_side" s_p__side) : C8.Cal P w K mg base 0 "_side" (sp3 K fun _ _ _ => False) [] := D.zero bi_p__side
theorem fok_p__side {P : Program} {w : World} {K : Fg} {mg : Str → Option Value} {base : Heap} {k : Nat} {f : Addr} {fd : FuncData} (Fd : FunD K "_side" "_side" (defArgs s_p__side) (defBody s_p__side) (defScope s_p__side) [] [] f fd) (m_isinstance : mg "isinstance" = none) (m_tuple : mg "tuple" = none) {s : WF} (len : ∀ us μ Q, s us μ Q → us.length = 3)
    (h : ∀ us μ Q, s us μ Q → W_p__side (E3 μ Q) (start3 N_p__side us) μ) :
    FnOk P w K mg base C8.CX0 (k + 1) f fd ["condition", "switch", "on"] (sp3 K s) :=
  fn3F Fd sc_p__side len fun cdv A outer sh H E hr =>
    let ⟨t, ht⟩ := body_p__side m_isinstance m_tuple cdv f A outer sh H E hr
    ⟨t, _, ht, h⟩
theorem cal_p__side {P : Program} {w : World} {K : Fg} {mg : Str → Option Value} {base : Heap} {k : Nat} (D : Dn K mg "_side" s_p__side) (m_isinstance : mg "isinstance" = none) (m_tuple : mg "tuple" = none) {s : WF} (len : ∀ us μ Q, s us μ Q → us.length = 3)
    (h : ∀ us μ Q, s us μ Q → W_p__side (E3 μ Q) (start3 N_p__side us) μ) :
    C8.Cal P w K mg base (k + 1) "_side" (sp3 K s) [] := by
  obtain ⟨f, fd, Fd, hmg⟩ := D.ex
  exact ⟨f, fd, _, [], fok_p__side Fd m_isinstance m_tuple len h, hmg, Fd.kp, bi_p__side Fd, .nil⟩

/-! ### _node -/
abbrev s_p__node : Stmt := topS 4
abbrev N_p__node : List Str := ["switch", "on", "off"]
theorem sc_p__node : FnScope N_p__node ["switch", "on", "off"] (defScope s_p__node) := ⟨rfl, rfl, rfl, by decide +kernel, rfl, by decide +kernel, by decide +kernel⟩
def W_p__node : WSt :=
  (wRet (wIf (wB (wOp (sEqA id) (wV 1) (wV 2))) (wV 1) (wTup (wCons (wV 0) (wCons (wV 1) (wCons (wV 2) wNil))))))
theorem body_p__node {P : Program} {w : World} {K : Fg} {mg : Str → Option Value} {base : Heap} {k : Nat}
    (cdv : Value) (f : Addr) (A : Around) (outer : List Env) (sh : Shared) (H : Hp) (E : XK) (hr : Room k (A.deeper (envOfC "_node" (defScope s_p__node) sh.heap.objs.size f cdv))) :
    ∃ t, WSs (cxOf CX0 P w K mg base N_p__node "_node" (defScope s_p__node) f cdv A outer sh H E).nox (defBody s_p__node) t (W_p__node) := by
  have nd := sc_p__node.nd
  exact ⟨_, (w_sone (w_ret (w_if (w_eq hr.units (w_v 1) (w_v 2)).t (w_v 1) (w_tup (w_cons (w_v 0) (w_cons (w_v 1) (w_cons (w_v 2) w_nil)))))))⟩
theorem bi_p__node {K : Fg} {f : Addr} {fd : FuncData} (Fd : FunD K "_node" "_node" (defArgs s_p__node) (defBody s_p__node) (defScope s_p__node) [] [] f fd) : Binds K fd ["switch", "on", "off"] [] := FunD.bindsN Fd fun _ _ _ _ _ _ us hl => match us, hl with | [_, _, _], _ => rfl
theorem z_p__node {P : Program} {w : World} {K : Fg} {mg : Str → Option Value} {base : Heap} (D : Dn K mg "_node" s_p__node) : C8.Cal P w K mg base 0 "_node" (sp3 K fun _ _ _ => False) [] := D.zero bi_p__node
theorem fok_p__node {P : Program} {w : World} {K : Fg} {mg : Str → Option Value} {base : Heap} {k : Nat} {f : Addr} {fd : FuncData} (Fd : FunD K "_node" "_node" (defArgs s_p__node) (defBody s_p__node) (defScope s_p__node) [] [] f fd) {s : WF} (len : ∀ us μ Q, s us μ Q → us.length = 3)
    (h : ∀ us μ Q, s us μ Q → W_p__node (E3 μ Q) (start3 N_p__node us) μ) :
    FnOk P w K mg base C8.CX0 (k + 1) f fd ["switch", "on", "off"] (sp3 K s) :=
  fn3F Fd sc_p__node len fun cdv A outer sh H E hr =>
    let ⟨t, ht⟩ := body_p__node cdv f A outer sh H E hr
    ⟨t, _, ht, h⟩
theorem cal_p__node {P : Program} {w : World} {K : Fg} {mg : Str → Option Value} {base : Heap} {k : Nat} (D : Dn K mg "_node" s_p__node) {s : WF} (len : ∀ us μ Q, s us μ Q → us.length = 3)
    (h : ∀ us μ Q, s us μ Q → W_p__node (E3 μ Q) (start3 N_p__node us) μ) :
    C8.Cal P w K mg base (k + 1) "_node" (sp3 K s) [] := by
  obtain ⟨f, fd, Fd, hmg⟩ := D.ex
  exact ⟨f, fd, _, [], fok_p__node Fd len h, hmg, Fd.kp, bi_p__node Fd, .nil⟩

/-! ### outcome_condition -/
abbrev s_p_outcome_condition : Stmt := topS 6
abbrev N_p_outcome_condition : List Str := ["table", "word", "found", "condition", "outcome"]
theorem sc_p_outcome_condition : FnScope N_p_outcome_condition ["table", "word"] (defScope s_p_outcome_condition) := ⟨rfl, rfl, rfl, by decide +kernel, rfl, by decide +kernel, by decide +kernel⟩
def W_p_outcome_condition (S_p_either : WF) : WSt :=
  (wSeq (wAsg (wC (.bool false)) (gN 2))
  (wSeq (wFor (jSeq (wV 0)) (gT [(gN 3), (gN 4)]) (wIfS (wB (wOp (sEqA id) (wOp sIx (wV 4) (wC (.int 0))) (wV 1))) (wAsg (wCall S_p_either (wCons (wV 2) (wCons (wV 3) wNil))) (gN 2)) wNext))
  (wRet (wV 2))))
theorem body_p_outcome_condition {P : Program} {w : World} {K : Fg} {mg : Str → Option Value} {base : Heap} {k : Nat} {k_p_either : Nat} {S_p_either : WF} (c_p_either : C8.Cal P w K mg base k_p_either "either" (sp3 K S_p_either) []) (h_p_either : k_p_either ≤ k)
    (cdv : Value) (f : Addr) (A : Around) (outer : List Env) (sh : Shared) (H : Hp) (E : XK) (hr : Room k (A.deeper (envOfC "outcome_condition" (defScope s_p_outcome_condition) sh.heap.objs.size f cdv))) :
    ∃ t, WSs (cxOf CX0 P w K mg base N_p_outcome_condition "outcome_condition" (defScope s_p_outcome_condition) f cdv A outer sh H E).nox (defBody s_p_outcome_condition) t (W_p_outcome_condition S_p_either) := by
  have nd := sc_p_outcome_condition.nd
  exact ⟨_, (w_scons (w_set 2 nd w_bl)
 (w_scons (w_for PassesOwn.never rfl (w_seq (w_v 0)) (w_gtup rfl (w_gcons (w_gn 3 nd) (w_gcons (w_gn 4 nd) w_gnil)))
 (w_sone (w_ifS (w_eq hr.units (w_ix (w_v 4) w_int) (w_v 1)).t
 (w_sone (w_set 2 nd (w_call c_p_either hr h_p_either (by rfl) (w_cons (w_v 2) (w_cons (w_v 3) w_nil)))))
 w_snil)))
 (w_sone (w_ret (w_v 2)))))⟩
theorem bi_p_outcome_condition {K : Fg} {f : Addr} {fd : FuncData} (Fd : FunD K "outcome_condition" "outcome_condition" (defArgs s_p_outcome_condition) (defBody s_p_outcome_condition) (defScope s_p_outcome_condition) [] [] f fd) : Binds K fd ["table", "word"] [] := FunD.bindsN Fd fun _ _ _ _ _ _ us hl => match us, hl with | [_, _], _ => rfl
theorem z_p_outcome_condition {P : Program} {w : World} {K : Fg} {mg : Str → Option Value} {base : Heap} (D : Dn K mg "outcome_condition" s_p_outcome_condition) : C8.Cal P w K mg base 0 "outcome_condition" (sp3 K fun _ _ _ => False) [] := D.zero bi_p_outcome_condition
theorem fok_p_outcome_condition {P : Program} {w : World} {K : Fg} {mg : Str → Option Value} {base : Heap} {k : Nat} {f : Addr} {fd : FuncData} (Fd : FunD K "outcome_condition" "outcome_condition" (defArgs s_p_outcome_condition) (defBody s_p_outcome_condition) (defScope s_p_outcome_condition) [] [] f fd) {k_p_either : Nat} {S_p_either : WF} (c_p_either : C8.Cal P w K mg base k_p_either "either" (sp3 K S_p_either) []) (h_p_either : k_p_either ≤ k) {s : WF} (len : ∀ us μ Q, s us μ Q → us.length = 2)
    (h : ∀ us μ Q, s us μ Q → W_p_outcome_condition S_p_either (E3 μ Q) (start3 N_p_outcome_condition us) μ) :
    FnOk P w K mg base C8.CX0 (k + 1) f fd ["table", "word"] (sp3 K s) :=
  fn3F Fd sc_p_outcome_condition len fun cdv A outer sh H E hr =>
    let ⟨t, ht⟩ := body_p_outcome_condition c_p_either h_p_either cdv f A outer sh H E hr
    ⟨t, _, ht, h⟩
theorem cal_p_outcome_condition {P : Program} {w : World} {K : Fg} {mg : Str → Option Value} {base : Heap} {k : Nat} (D : Dn K mg "outcome_condition" s_p_outcome_condition) {k_p_either : Nat} {S_p_either : WF} (c_p_either : C8.Cal P w K mg base k_p_either "either" (sp3 K S_p_either) []) (h_p_either : k_p_either ≤ k) {s : WF} (len : ∀ us μ Q, s us μ Q → us.length = 2)
    (h : ∀ us μ Q, s us μ Q → W_p_outcome_condition S_p_either (E3 μ Q) (start3 N_p_outcome_condition us) μ) :
    C8.Cal P w K mg base (k + 1) "outcome_condition" (sp3 K s) [] := by
  obtain ⟨f, fd, Fd, hmg⟩ := D.ex
  exact ⟨f, fd, _, [], fok_p_outcome_condition Fd c_p_either h_p_either len h, hmg, Fd.kp, bi_p_outcome_condition Fd, .nil⟩

/-! ### deciding_switches -/
abbrev s_p_deciding_switches : Stmt := topS 7
abbrev N_p_deciding_switches : List Str := ["table", "found", "condition", "_", "switch"]
theorem sc_p_deciding_switches : FnScope N_p_deciding_switches ["table"] (defScope s_p_deciding_switches) := ⟨rfl, rfl, rfl, by decide +kernel, rfl, by decide +kernel, by decide +kernel⟩
def W_p_deciding_switches (S_p_switches_of : WF) : WSt :=
  (wSeq (wAsg wDictN (gN 1))
  (wSeq (wFor (jSeq (wV 0)) (gT [(gN 2), (gN 3)]) (wDropF (wMD mUpd (wV 1) (wCons (wDc (jSeq (wCall S_p_switches_of (wCons (wV 2) wNil))) [4] (gN 4) wYes (wV 4) (wC (.bool true))) wNil))))
  (wRet (wQ qTuple (wCons (wQ qSortA (wCons (wV 1) wNil)) wNil)))))
theorem body_p_deciding_switches {P : Program} {w : World} {K : Fg} {mg : Str → Option Value} {base : Heap} {k : Nat} {k_p_switches_of : Nat} {S_p_switches_of : WF} (c_p_switches_of : C8.Cal P w K mg base k_p_switches_of "switches_of" (sp3 K S_p_switches_of) []) (h_p_switches_of : k_p_switches_of ≤ k) (m_sorted : mg "sorted" = none) (m_tuple : mg "tuple" = none)
    (cdv : Value) (f : Addr) (A : Around) (outer : List Env) (sh : Shared) (H : Hp) (E : XK) (hr : Room k (A.deeper (envOfC "deciding_switches" (defScope s_p_deciding_switches) sh.heap.objs.size f cdv))) :
    ∃ t, WSs (cxOf CX0 P w K mg base N_p_deciding_switches "deciding_switches" (defScope s_p_deciding_switches) f cdv A outer sh H E).nox (defBody s_p_deciding_switches) t (W_p_deciding_switches S_p_switches_of) := by
  have nd := sc_p_deciding_switches.nd
  exact ⟨_, (w_scons (w_set 1 nd w_dictN)
 (w_scons (w_for PassesOwn.never rfl (w_seq (w_v 0)) (w_gtup rfl (w_gcons (w_gn 2 nd) (w_gcons (w_gn 3 nd) w_gnil)))
 (w_sone (w_exprF (w_update (w_v 1) (w_cons (w_dc1 "switch" 4 rfl nd (w_seq (w_call c_p_switches_of hr h_p_switches_of (by rfl) (w_cons (w_v 2) w_nil))) (blkOk_by (N := N_p_deciding_switches) (sc := defScope s_p_deciding_switches) (by decide +kernel)) (go_name (by decide)) (w_gn 4 nd) w_tsnil (w_v 4) w_bl (fun _ _ _ _ _ => (w_gn 4 nd)) (fun _ _ _ _ _ => w_tsnil) (fun _ _ _ _ _ => (w_v 4)) (fun _ _ _ _ _ => w_bl)) w_nil)))))
 (w_sone (w_ret (w_tuplec (by rfl) m_tuple (w_cons (w_sorted rfl (by rfl) m_sorted (w_cons (w_v 1) w_nil)) w_nil))))))⟩
theorem bi_p_deciding_switches {K : Fg} {f : Addr} {fd : FuncData} (Fd : FunD K "deciding_switches" "deciding_switches" (defArgs s_p_deciding_switches) (defBody s_p_deciding_switches) (defScope s_p_deciding_switches) [] [] f fd) : Binds K fd ["table"] [] := FunD.bindsN Fd fun _ _ _ _ _ _ us hl => match us, hl with | [_], _ => rfl
theorem z_p_deciding_switches {P : Program} {w : World} {K : Fg} {mg : Str → Option Value} {base : Heap} (D : Dn K mg "deciding_switches" s_p_deciding_switches) : C8.Cal P w K mg base 0 "deciding_switches" (sp3 K fun _ _ _ => False) [] := D.zero bi_p_deciding_switches
theorem fok_p_deciding_switches {P : Program} {w : World} {K : Fg} {mg : Str → Option Value} {base : Heap} {k : Nat} {f : Addr} {fd : FuncData} (Fd : FunD K "deciding_switches" "deciding_switches" (defArgs s_p_deciding_switches) (defBody s_p_deciding_switches) (defScope s_p_deciding_switches) [] [] f fd) {k_p_switches_of : Nat} {S_p_switches_of : WF} (c_p_switches_of : C8.Cal P w K mg base k_p_switches_of "switches_of" (sp3 K S_p_switches_of) []) (h_p_switches_of : k_p_switches_of ≤ k) (m_sorted : mg "sorted" = none) (m_tuple : mg "tuple" = none) {s : WF} (len : ∀ us μ Q, s us μ Q → us.length = 1)
    (h : ∀ us μ Q, s us μ Q → W_p_deciding_switches S_p_switches_of (E3 μ Q) (start3 N_p_deciding_switches us) μ) :
    FnOk P w K mg base C8.CX0 (k + 1) f fd ["table"] (sp3 K s) :=
  fn3F Fd sc_p_deciding_switches len fun cdv A outer sh H E hr =>
    let ⟨t, ht⟩ := body_p_deciding_switches c_p_switches_of h_p_switches_of m_sorted m_tuple cdv f A outer sh H E hr
    ⟨t, _, ht, h⟩
theorem cal_p_deciding_switches {P : Program} {w : World} {K : Fg} {mg : Str → Option Value} {base : Heap} {k : Nat} (D : Dn K mg "deciding_switches" s_p_deciding_switches) {k_p_switches_of : Nat} {S_p_switches_of : WF} (c_p_switches_of : C8.Cal P w K mg base k_p_switches_of "switches_of" (sp3 K S_p_switches_of) []) (h_p_switches_of : k_p_switches_of ≤ k) (m_sorted : mg "sorted" = none) (m_tuple : mg "tuple" = none) {s : WF} (len : ∀ us μ Q, s us μ Q → us.length = 1)
    (h : ∀ us μ Q, s us μ Q → W_p_deciding_switches S_p_switches_of (E3 μ Q) (start3 N_p_deciding_switches us) μ) :
    C8.Cal P w K mg base (k + 1) "deciding_switches" (sp3 K s) [] := by
  obtain ⟨f, fd, Fd, hmg⟩ := D.ex
  exact ⟨f, fd, _, [], fok_p_deciding_switches Fd c_p_switches_of h_p_switches_of m_sorted m_tuple len h, hmg, Fd.kp, bi_p_deciding_switches Fd, .nil⟩

/-! ### _law_gd_settings -/
abbrev s_l_gd_settings : Stmt := topS 9
abbrev N_l_gd_settings : List Str := ["_law_switches", "_law_told", "_law_a", "_law_k"]
theorem sc_l_gd_settings : FnScope N_l_gd_settings ["_law_switches"] (defScope s_l_gd_settings) := ⟨rfl, rfl, rfl, by decide +kernel, rfl, by decide +kernel, by decide +kernel⟩
def W_l_gd_settings : WSt :=
  (wSeq (wAsg (wLst (wCons (wTup wNil) wNil)) (gN 1))
  (wSeq (wFor (jSeq (wV 0)) (gN 2) (wAsg (wLc (jRng1 (wCons (wOp sMul (wC (.int 2)) (wQ qLenA (wCons (wV 1) wNil))) wNil)) [3] (gN 3) wYes (wOp sCatT (wOp sIx (wV 1) (wOp sFdiv (wV 3) (wC (.int 2)))) (wOp sIx (wLst (wCons (wTup wNil) (wCons (wTup (wCons (wV 2) wNil)) wNil))) (wOp sMod (wV 3) (wC (.int 2)))))) (gN 1)))
  (wRet (wV 1))))
theorem body_l_gd_settings {P : Program} {w : World} {K : Fg} {mg : Str → Option Value} {base : Heap} {k : Nat} (m_len : mg "len" = none) (m_range : mg "range" = none)
    (cdv : Value) (f : Addr) (A : Around) (outer : List Env) (sh : Shared) (H : Hp) (E : XK) (hr : Room k (A.deeper (envOfC "_law_gd_settings" (defScope s_l_gd_settings) sh.heap.objs.size f cdv))) :
    ∃ t, WSs (cxOf CX0 P w K mg base N_l_gd_settings "_law_gd_settings" (defScope s_l_gd_settings) f cdv A outer sh H E).nox (defBody s_l_gd_settings) t (W_l_gd_settings) := by
  have nd := sc_l_gd_settings.nd
  exact ⟨_, (w_scons (w_set 1 nd (w_lst (w_cons (w_tup w_nil) w_nil)))
 (w_scons (w_for PassesOwn.never rfl (w_seq (w_v 0)) (w_gn 2 nd)
 (w_sone (w_set 1 nd (w_lc1 "_law_k" 3 rfl nd (w_rng1 (by rfl) m_range (w_cons (w_mul w_int (w_len (by rfl) m_len (w_cons (w_v 1) w_nil))) w_nil)) (blkOk_by (N := N_l_gd_settings) (sc := defScope s_l_gd_settings) (by decide +kernel)) (go_name (by decide)) (w_gn 3 nd) w_tsnil (w_addT (w_ix (w_v 1) (w_fdiv (w_v 3) w_int)) (w_ix (w_lst (w_cons (w_tup w_nil) (w_cons (w_tup (w_cons (w_v 2) w_nil)) w_nil))) (w_mod (w_v 3) w_int))) (fun _ _ _ _ _ => (w_gn 3 nd)) (fun _ _ _ _ _ => w_tsnil) (fun _ _ _ _ _ => (w_addT (w_ix (w_v 1) (w_fdiv (w_v 3) w_int)) (w_ix (w_lst (w_cons (w_tup w_nil) (w_cons (w_tup (w_cons (w_v 2) w_nil)) w_nil))) (w_mod (w_v 3) w_int))))))))
 (w_sone (w_ret (w_v 1)))))⟩
theorem bi_l_gd_settings {K : Fg} {f : Addr} {fd : FuncData} (Fd : FunD K "_law_gd_settings" "_law_gd_settings" (defArgs s_l_gd_settings) (defBody s_l_gd_settings) (defScope s_l_gd_settings) [] [] f fd) : Binds K fd ["_law_switches"] [] := FunD.bindsN Fd fun _ _ _ _ _ _ us hl => match us, hl with | [_], _ => rfl
theorem z_l_gd_settings {P : Program} {w : World} {K : Fg} {mg : Str → Option Value} {base : Heap} (D : Dn K mg "_law_gd_settings" s_l_gd_settings) : C8.Cal P w K mg base 0 "_law_gd_settings" (sp3 K fun _ _ _ => False) [] := D.zero bi_l_gd_settings
theorem fok_l_gd_settings {P : Program} {w : World} {K : Fg} {mg : Str → Option Value} {base : Heap} {k : Nat} {f : Addr} {fd : FuncData} (Fd : FunD K "_law_gd_settings" "_law_gd_settings" (defArgs s_l_gd_settings) (defBody s_l_gd_settings) (defScope s_l_gd_settings) [] [] f fd) (m_len : mg "len" = none) (m_range : mg "range" = none) {s : WF} (len : ∀ us μ Q, s us μ Q → us.length = 1)
    (h : ∀ us μ Q, s us μ Q → W_l_gd_settings (E3 μ Q) (start3 N_l_gd_settings us) μ) :
    FnOk P w K mg base C8.CX0 (k + 1) f fd ["_law_switches"] (sp3 K s) :=
  fn3F Fd sc_l_gd_settings len fun cdv A outer sh H E hr =>
    let ⟨t, ht⟩ := body_l_gd_settings m_len m_range cdv f A outer sh H E hr
    ⟨t, _, ht, h⟩
theorem cal_l_gd_settings {P : Program} {w : World} {K : Fg} {mg : Str → Option Value} {base : Heap} {k : Nat} (D : Dn K mg "_law_gd_settings" s_l_gd_settings) (m_len : mg "len" = none) (m_range : mg "range" = none) {s : WF} (len : ∀ us μ Q, s us μ Q → us.length = 1)
    (h : ∀ us μ Q, s us μ Q → W_l_gd_settings (E3 μ Q) (start3 N_l_gd_settings us) μ) :
    C8.Cal P w K mg base (k + 1) "_law_gd_settings" (sp3 K s) [] := by
  obtain ⟨f, fd, Fd, hmg⟩ := D.ex
  exact ⟨f, fd, _, [], fok_l_gd_settings Fd m_len m_range len h, hmg, Fd.kp, bi_l_gd_settings Fd, .nil⟩

/-! ### _law_gd_grown -/
abbrev s_l_gd_grown : Stmt := topS 10
abbrev N_l_gd_grown : List Str := ["_law_bits", "_law_switches", "_law_half", "_law_off", "_law_on"]
theorem sc_l_gd_grown : FnScope N_l_gd_grown ["_law_bits", "_law_switches"] (defScope s_l_gd_grown) := ⟨rfl, rfl, rfl, by decide +kernel, rfl, by decide +kernel, by decide +kernel⟩
def W_l_gd_grown (S_l_gd_grown : WF) : WSt :=
  (wSeq (wIfS (wB (wOp (sEqA id) (wQ qLenA (wCons (wV 0) wNil)) (wC (.int 1)))) (wRet (wOp sIx (wV 0) (wC (.int 0)))) wNext)
  (wSeq (wAsg (wOp sFdiv (wQ qLenA (wCons (wV 0) wNil)) (wC (.int 2))) (gN 2))
  (wSeq (wPar 3 4 (wCons (wCall S_l_gd_grown (wCons (wSl (wV 0) wNoPart (wPart (wV 2))) (wCons (wSl (wV 1) (wPart (wC (.int 1))) wNoPart) wNil))) (wCons (wCall S_l_gd_grown (wCons (wSl (wV 0) (wPart (wV 2)) wNoPart) (wCons (wSl (wV 1) (wPart (wC (.int 1))) wNoPart) wNil))) wNil)))
  (wSeq (wIfS (wB (wOp (sEqA id) (wV 4) (wV 3))) (wRet (wV 4)) wNext)
  (wRet (wTup (wCons (wOp sIx (wV 1) (wC (.int 0))) (wCons (wV 4) (wCons (wV 3) wNil)))))))))
theorem body_l_gd_grown {P : Program} {w : World} {K : Fg} {mg : Str → Option Value} {base : Heap} {k : Nat} {k_l_gd_grown : Nat} {S_l_gd_grown : WF} (c_l_gd_grown : C8.Cal P w K mg base k_l_gd_grown "_law_gd_grown" (sp3 K S_l_gd_grown) []) (h_l_gd_grown : k_l_gd_grown ≤ k) (m_len : mg "len" = none)
    (cdv : Value) (f : Addr) (A : Around) (outer : List Env) (sh : Shared) (H : Hp) (E : XK) (hr : Room k (A.deeper (envOfC "_law_gd_grown" (defScope s_l_gd_grown) sh.heap.objs.size f cdv))) :
    ∃ t, WSs (cxOf CX0 P w K mg base N_l_gd_grown "_law_gd_grown" (defScope s_l_gd_grown) f cdv A outer sh H E).nox (defBody s_l_gd_grown) t (W_l_gd_grown S_l_gd_grown) := by
  have nd := sc_l_gd_grown.nd
  exact ⟨_, (w_scons (w_ifS (w_eq hr.units (w_len (by rfl) m_len (w_cons (w_v 0) w_nil)) w_int).t
 (w_sone (w_ret (w_ix (w_v 0) w_int)))
 w_snil)
 (w_scons (w_set 2 nd (w_fdiv (w_len (by rfl) m_len (w_cons (w_v 0) w_nil)) w_int))
 (w_scons (w_par 3 4 rfl nd (w_cons (w_call c_l_gd_grown hr h_l_gd_grown (by rfl) (w_cons (w_sl (w_v 0) w_noPart (w_part (w_v 2))) (w_cons (w_sl (w_v 1) (w_part w_int) w_noPart) w_nil))) (w_cons (w_call c_l_gd_grown hr h_l_gd_grown (by rfl) (w_cons (w_sl (w_v 0) (w_part (w_v 2)) w_noPart) (w_cons (w_sl (w_v 1) (w_part w_int) w_noPart) w_nil))) w_nil)))
 (w_scons (w_ifS (w_eq hr.units (w_v 4) (w_v 3)).t
 (w_sone (w_ret (w_v 4)))
 w_snil)
 (w_sone (w_ret (w_tup (w_cons (w_ix (w_v 1) w_int) (w_cons (w_v 4) (w_cons (w_v 3) w_nil))))))))))⟩
theorem bi_l_gd_grown {K : Fg} {f : Addr} {fd : FuncData} (Fd : FunD K "_law_gd_grown" "_law_gd_grown" (defArgs s_l_gd_grown) (defBody s_l_gd_grown) (defScope s_l_gd_grown) [] [] f fd) : Binds K fd ["_law_bits", "_law_switches"] [] := FunD.bindsN Fd fun _ _ _ _ _ _ us hl => match us, hl with | [_, _], _ => rfl
theorem z_l_gd_grown {P : Program} {w : World} {K : Fg} {mg : Str → Option Value} {base : Heap} (D : Dn K mg "_law_gd_grown" s_l_gd_grown) : C8.Cal P w K mg base 0 "_law_gd_grown" (sp3 K fun _ _ _ => False) [] := D.zero bi_l_gd_grown
theorem fok_l_gd_grown {P : Program} {w : World} {K : Fg} {mg : Str → Option Value} {base : Heap} {k : Nat} {f : Addr} {fd : FuncData} (Fd : FunD K "_law_gd_grown" "_law_gd_grown" (defArgs s_l_gd_grown) (defBody s_l_gd_grown) (defScope s_l_gd_grown) [] [] f fd) {k_l_gd_grown : Nat} {S_l_gd_grown : WF} (c_l_gd_grown : C8.Cal P w K mg base k_l_gd_grown "_law_gd_grown" (sp3 K S_l_gd_grown) []) (h_l_gd_grown : k_l_gd_grown ≤ k) (m_len : mg "len" = none) {s : WF} (len : ∀ us μ Q, s us μ Q → us.length = 2)
    (h : ∀ us μ Q, s us μ Q → W_l_gd_grown S_l_gd_grown (E3 μ Q) (start3 N_l_gd_grown us) μ) :
    FnOk P w K mg base C8.CX0 (k + 1) f fd ["_law_bits", "_law_switches"] (sp3 K s) :=
  fn3F Fd sc_l_gd_grown len fun cdv A outer sh H E hr =>
    let ⟨t, ht⟩ := body_l_gd_grown c_l_gd_grown h_l_gd_grown m_len cdv f A outer sh H E hr
    ⟨t, _, ht, h⟩
theorem cal_l_gd_grown {P : Program} {w : World} {K : Fg} {mg : Str → Option Value} {base : Heap} {k : Nat} (D : Dn K mg "_law_gd_grown" s_l_gd_grown) {k_l_gd_grown : Nat} {S_l_gd_grown : WF} (c_l_gd_grown : C8.Cal P w K mg base k_l_gd_grown "_law_gd_grown" (sp3 K S_l_gd_grown) []) (h_l_gd_grown : k_l_gd_grown ≤ k) (m_len : mg "len" = none) {s : WF} (len : ∀ us μ Q, s us μ Q → us.length = 2)
    (h : ∀ us μ Q, s us μ Q → W_l_gd_grown S_l_gd_grown (E3 μ Q) (start3 N_l_gd_grown us) μ) :
    C8.Cal P w K mg base (k + 1) "_law_gd_grown" (sp3 K s) [] := by
  obtain ⟨f, fd, Fd, hmg⟩ := D.ex
  exact ⟨f, fd, _, [], fok_l_gd_grown Fd c_l_gd_grown h_l_gd_grown m_len len h, hmg, Fd.kp, bi_l_gd_grown Fd, .nil⟩

/-! ### _law_gd_table -/
abbrev s_l_gd_table : Stmt := topS 11
abbrev N_l_gd_table : List Str := ["_law_values", "_law_switches", "_law_one", "_law_seen", "_law_told", "_law_two"]
theorem sc_l_gd_table : FnScope N_l_gd_table ["_law_values", "_law_switches"] (defScope s_l_gd_table) := ⟨rfl, rfl, rfl, by decide +kernel, rfl, by decide +kernel, by decide +kernel⟩
def W_l_gd_table (S_l_gd_grown : WF) : WSt :=
  (wSeq (wPar 3 4 (wCons (wLstM wNil) (wCons (wLstM wNil) wNil)))
  (wSeq (wFor (jSeq (wV 0)) (gN 2) (wIfS (wAnd (wB (wOp (sIsN not) (wV 2) (wC .none))) (wB (wOp (sInD not) (wV 2) (wV 3)))) (wSeq (wDrop (wML mAppend (wV 3) (wCons (wV 2) wNil)))
  (wDrop (wML mAppend (wV 4) (wCons (wTup (wCons (wCall S_l_gd_grown (wCons (wLc (jSeq (wV 0)) [5] (gN 5) wYes (wOp (sEqA id) (wV 5) (wV 2))) (wCons (wV 1) wNil))) (wCons (wV 2) wNil))) wNil)))) wNext))
  (wRet (wQ qTuple (wCons (wV 4) wNil)))))
theorem body_l_gd_table {P : Program} {w : World} {K : Fg} {mg : Str → Option Value} {base : Heap} {k : Nat} {k_l_gd_grown : Nat} {S_l_gd_grown : WF} (c_l_gd_grown : C8.Cal P w K mg base k_l_gd_grown "_law_gd_grown" (sp3 K S_l_gd_grown) []) (h_l_gd_grown : k_l_gd_grown ≤ k) (m_tuple : mg "tuple" = none)
    (cdv : Value) (f : Addr) (A : Around) (outer : List Env) (sh : Shared) (H : Hp) (E : XK) (hr : Room k (A.deeper (envOfC "_law_gd_table" (defScope s_l_gd_table) sh.heap.objs.size f cdv))) :
    ∃ t, WSs (cxOf CX0 P w K mg base N_l_gd_table "_law_gd_table" (defScope s_l_gd_table) f cdv A outer sh H E).nox (defBody s_l_gd_table) t (W_l_gd_table S_l_gd_grown) := by
  have nd := sc_l_gd_table.nd
  exact ⟨_, (w_scons (w_par 3 4 rfl nd (w_cons (w_lstM w_nil) (w_cons (w_lstM w_nil) w_nil)))
 (w_scons (w_for PassesOwn.never rfl (w_seq (w_v 0)) (w_gn 2 nd)
 (w_sone (w_ifS (w_ww (w_and (w_isnotN (w_v 2)).t (w_and1 (w_notinD (units65 hr) (w_v 2) (w_v 3)).t)))
 (w_scons (w_expr (w_append (w_v 3) (w_cons (w_v 2) w_nil)))
 (w_sone (w_expr (w_append (w_v 4) (w_cons (w_tup (w_cons (w_call c_l_gd_grown hr h_l_gd_grown (by rfl) (w_cons (w_lc1 "_law_two" 5 rfl nd (w_seq (w_v 0)) (blkOk_by (N := N_l_gd_table) (sc := defScope s_l_gd_table) (by decide +kernel)) (go_name (by decide)) (w_gn 5 nd) w_tsnil (w_eq hr.units (w_v 5) (w_v 2)).e (fun _ _ _ _ _ => (w_gn 5 nd)) (fun _ _ _ _ _ => w_tsnil) (fun _ _ _ _ _ => (w_eq hr.units (w_v 5) (w_v 2)).e)) (w_cons (w_v 1) w_nil))) (w_cons (w_v 2) w_nil))) w_nil)))))
 w_snil)))
 (w_sone (w_ret (w_tuplec (by rfl) m_tuple (w_cons (w_v 4) w_nil))))))⟩
theorem bi_l_gd_table {K : Fg} {f : Addr} {fd : FuncData} (Fd : FunD K "_law_gd_table" "_law_gd_table" (defArgs s_l_gd_table) (defBody s_l_gd_table) (defScope s_l_gd_table) [] [] f fd) : Binds K fd ["_law_values", "_law_switches"] [] := FunD.bindsN Fd fun _ _ _ _ _ _ us hl => match us, hl with | [_, _], _ => rfl
theorem z_l_gd_table {P : Program} {w : World} {K : Fg} {mg : Str → Option Value} {base : Heap} (D : Dn K mg "_law_gd_table" s_l_gd_table) : C8.Cal P w K mg base 0 "_law_gd_table" (sp3 K fun _ _ _ => False) [] := D.zero bi_l_gd_table
theorem fok_l_gd_table {P : Program} {w : World} {K : Fg} {mg : Str → Option Value} {base : Heap} {k : Nat} {f : Addr} {fd : FuncData} (Fd : FunD K "_law_gd_table" "_law_gd_table" (defArgs s_l_gd_table) (defBody s_l_gd_table) (defScope s_l_gd_table) [] [] f fd) {k_l_gd_grown : Nat} {S_l_gd_grown : WF} (c_l_gd_grown : C8.Cal P w K mg base k_l_gd_grown "_law_gd_grown" (sp3 K S_l_gd_grown) []) (h_l_gd_grown : k_l_gd_grown ≤ k) (m_tuple : mg "tuple" = none) {s : WF} (len : ∀ us μ Q, s us μ Q → us.length = 2)
    (h : ∀ us μ Q, s us μ Q → W_l_gd_table S_l_gd_grown (E3 μ Q) (start3 N_l_gd_table us) μ) :
    FnOk P w K mg base C8.CX0 (k + 1) f fd ["_law_values", "_law_switches"] (sp3 K s) :=
  fn3F Fd sc_l_gd_table len fun cdv A outer sh H E hr =>
    let ⟨t, ht⟩ := body_l_gd_table c_l_gd_grown h_l_gd_grown m_tuple cdv f A outer sh H E hr
    ⟨t, _, ht, h⟩
theorem cal_l_gd_table {P : Program} {w : World} {K : Fg} {mg : Str → Option Value} {base : Heap} {k : Nat} (D : Dn K mg "_law_gd_table" s_l_gd_table) {k_l_gd_grown : Nat} {S_l_gd_grown : WF} (c_l_gd_grown : C8.Cal P w K mg base k_l_gd_grown "_law_gd_grown" (sp3 K S_l_gd_grown) []) (h_l_gd_grown : k_l_gd_grown ≤ k) (m_tuple : mg "tuple" = none) {s : WF} (len : ∀ us μ Q, s us μ Q → us.length = 2)
    (h : ∀ us μ Q, s us μ Q → W_l_gd_table S_l_gd_grown (E3 μ Q) (start3 N_l_gd_table us) μ) :
    C8.Cal P w K mg base (k + 1) "_law_gd_table" (sp3 K s) [] := by
  obtain ⟨f, fd, Fd, hmg⟩ := D.ex
  exact ⟨f, fd, _, [], fok_l_gd_table Fd c_l_gd_grown h_l_gd_grown m_tuple len h, hmg, Fd.kp, bi_l_gd_table Fd, .nil⟩

/-! ### _law_gd_switches -/
abbrev s_l_gd_switches : Stmt := topS 12
abbrev N_l_gd_switches : List Str := ["_law_hand_here", "_law_many", "_law_start", "_law_heads", "_law_one"]
theorem sc_l_gd_switches : FnScope N_l_gd_switches ["_law_hand_here", "_law_many"] (defScope s_l_gd_switches) := ⟨rfl, rfl, rfl, by decide +kernel, rfl, by decide +kernel, by decide +kernel⟩
def W_l_gd_switches (S_l_take : WF) : WSt :=
  (wSeq (wAsg (wCall S_l_take (wCons (wV 0) (wCons (wC (.int 26)) wNil))) (gN 2))
  (wSeq (wAsg (wSlS (wC (.str (Str.ofString "ABCDEFGHIJKLMNOPQRSTUVWXYZABCDEFGHIJKLMNOPQRSTUVWXYZ"))) (wPart (wV 2)) (wPart (wOp sAdd (wV 2) (wV 1)))) (gN 3))
  (wRet (wQ qSortA (wCons (wLc (jStr (wV 3)) [4] (gN 4) wYes (wOp sAdd (wV 4) (wOp sIx (wLst (wCons (wC (.str (Str.ofString ""))) (wCons (wC (.str (Str.ofString "a"))) (wCons (wC (.str (Str.ofString "7"))) wNil)))) (wCall S_l_take (wCons (wV 0) (wCons (wC (.int 3)) wNil)))))) wNil)))))
theorem body_l_gd_switches {P : Program} {w : World} {K : Fg} {mg : Str → Option Value} {base : Heap} {k : Nat} {k_l_take : Nat} {S_l_take : WF} (c_l_take : C8.Cal P w K mg base k_l_take "_law_take" (sp3 K S_l_take) []) (h_l_take : k_l_take ≤ k) (m_sorted : mg "sorted" = none)
    (cdv : Value) (f : Addr) (A : Around) (outer : List Env) (sh : Shared) (H : Hp) (E : XK) (hr : Room k (A.deeper (envOfC "_law_gd_switches" (defScope s_l_gd_switches) sh.heap.objs.size f cdv))) :
    ∃ t, WSs (cxOf CX0 P w K mg base N_l_gd_switches "_law_gd_switches" (defScope s_l_gd_switches) f cdv A outer sh H E).nox (defBody s_l_gd_switches) t (W_l_gd_switches S_l_take) := by
  have nd := sc_l_gd_switches.nd
  exact ⟨_, (w_scons (w_set 2 nd (w_call c_l_take hr h_l_take (by rfl) (w_cons (w_v 0) (w_cons w_int w_nil))))
 (w_scons (w_set 3 nd (w_slS w_str (w_part (w_v 2)) (w_part (w_add (w_v 2) (w_v 1)))))
 (w_sone (w_ret (w_sorted rfl (by rfl) m_sorted (w_cons (w_lc1 "_law_one" 4 rfl nd (w_seqS (w_v 3)) (blkOk_by (N := N_l_gd_switches) (sc := defScope s_l_gd_switches) (by decide +kernel)) (go_name (by decide)) (w_gn 4 nd) w_tsnil (w_add (w_v 4) (w_ix (w_lst (w_cons w_str (w_cons w_str (w_cons w_str w_nil)))) (w_call c_l_take hr h_l_take (by rfl) (w_cons (w_v 0) (w_cons w_int w_nil))))) (fun _ _ _ _ _ => (w_gn 4 nd)) (fun _ _ _ _ _ => w_tsnil) (fun _ _ _ _ _ => (w_add (w_v 4) (w_ix (w_lst (w_cons w_str (w_cons w_str (w_cons w_str w_nil)))) (w_call c_l_take hr h_l_take (by rfl) (w_cons (w_v 0) (w_cons w_int w_nil))))))) w_nil))))))⟩
theorem bi_l_gd_switches {K : Fg} {f : Addr} {fd : FuncData} (Fd : FunD K "_law_gd_switches" "_law_gd_switches" (defArgs s_l_gd_switches) (defBody s_l_gd_switches) (defScope s_l_gd_switches) [] [] f fd) : Binds K fd ["_law_hand_here", "_law_many"] [] := FunD.bindsN Fd fun _ _ _ _ _ _ us hl => match us, hl with | [_, _], _ => rfl
theorem z_l_gd_switches {P : Program} {w : World} {K : Fg} {mg : Str → Option Value} {base : Heap} (D : Dn K mg "_law_gd_switches" s_l_gd_switches) : C8.Cal P w K mg base 0 "_law_gd_switches" (sp3 K fun _ _ _ => False) [] := D.zero bi_l_gd_switches
theorem fok_l_gd_switches {P : Program} {w : World} {K : Fg} {mg : Str → Option Value} {base : Heap} {k : Nat} {f : Addr} {fd : FuncData} (Fd : FunD K "_law_gd_switches" "_law_gd_switches" (defArgs s_l_gd_switches) (defBody s_l_gd_switches) (defScope s_l_gd_switches) [] [] f fd) {k_l_take : Nat} {S_l_take : WF} (c_l_take : C8.Cal P w K mg base k_l_take "_law_take" (sp3 K S_l_take) []) (h_l_take : k_l_take ≤ k) (m_sorted : mg "sorted" = none) {s : WF} (len : ∀ us μ Q, s us μ Q → us.length = 2)
    (h : ∀ us μ Q, s us μ Q → W_l_gd_switches S_l_take (E3 μ Q) (start3 N_l_gd_switches us) μ) :
    FnOk P w K mg base C8.CX0 (k + 1) f fd ["_law_hand_here", "_law_many"] (sp3 K s) :=
  fn3F Fd sc_l_gd_switches len fun cdv A outer sh H E hr =>
    let ⟨t, ht⟩ := body_l_gd_switches c_l_take h_l_take m_sorted cdv f A outer sh H E hr
    ⟨t, _, ht, h⟩
theorem cal_l_gd_switches {P : Program} {w : World} {K : Fg} {mg : Str → Option Value} {base : Heap} {k : Nat} (D : Dn K mg "_law_gd_switches" s_l_gd_switches) {k_l_take : Nat} {S_l_take : WF} (c_l_take : C8.Cal P w K mg base k_l_take "_law_take" (sp3 K S_l_take) []) (h_l_take : k_l_take ≤ k) (m_sorted : mg "sorted" = none) {s : WF} (len : ∀ us μ Q, s us μ Q → us.length = 2)
    (h : ∀ us μ Q, s us μ Q → W_l_gd_switches S_l_take (E3 μ Q) (start3 N_l_gd_switches us) μ) :
    C8.Cal P w K mg base (k + 1) "_law_gd_switches" (sp3 K s) [] := by
  obtain ⟨f, fd, Fd, hmg⟩ := D.ex
  exact ⟨f, fd, _, [], fok_l_gd_switches Fd c_l_take h_l_take m_sorted len h, hmg, Fd.kp, bi_l_gd_switches Fd, .nil⟩

/-! ### _law_hand -/
abbrev s_l_hand : Stmt := topS 13
abbrev N_l_hand : List Str := ["_law_script", "_law_total", "_law_cells", "_law_cell"]
theorem sc_l_hand : FnScope N_l_hand ["_law_script"] (defScope s_l_hand) := ⟨rfl, rfl, rfl, by decide +kernel, rfl, by decide +kernel, by decide +kernel⟩
def W_l_hand : WSt :=
  (wSeq (wAsg (wOp sAdd (wOp sMul (wQ qLenA (wCons (wV 0) wNil)) (wC (.int 37))) (wC (.int 101))) (gN 1))
  (wSeq (wAsg (wLstM wNil) (gN 2))
  (wSeq (wFor (jSeq (wV 0)) (gN 3) (wSeq (wAsg (wOp sMod (wQ qInt (wCons (wOp sAdd (wOp sMul (wV 1) (wC (.int 2011))) (wQ qInt (wCons (wV 3) wNil))) wNil)) (wC (.int 2147483543))) (gN 1))
  (wDrop (wML mAppend (wV 2) (wCons (wQ qAbs (wCons (wQ qInt (wCons (wV 3) wNil)) wNil)) wNil)))))
  (wFrz 2 (wRet (wLstM (wCons (wV 2) (wCons (wC (.int 0)) (wCons (wC (.int 0)) (wCons (wV 1) wNil))))))))))
theorem body_l_hand {P : Program} {w : World} {K : Fg} {mg : Str → Option Value} {base : Heap} {k : Nat} (m_len : mg "len" = none) (m_int : mg "int" = none) (m_abs : mg "abs" = none)
    (cdv : Value) (f : Addr) (A : Around) (outer : List Env) (sh : Shared) (H : Hp) (E : XK) (hr : Room k (A.deeper (envOfC "_law_hand" (defScope s_l_hand) sh.heap.objs.size f cdv))) :
    ∃ t, WSs (cxOf CX0 P w K mg base N_l_hand "_law_hand" (defScope s_l_hand) f cdv A outer sh H E).nox (defBody s_l_hand) t (W_l_hand) := by
  have nd := sc_l_hand.nd
  exact ⟨_, (w_scons (w_set 1 nd (w_add (w_mul (w_len (by rfl) m_len (w_cons (w_v 0) w_nil)) w_int) w_int))
 (w_scons (w_set 2 nd (w_lstM w_nil))
 (w_scons (w_for PassesOwn.never rfl (w_seq (w_v 0)) (w_gn 3 nd)
 (w_scons (w_set 1 nd (w_mod (w_intc (by rfl) m_int (w_cons (w_add (w_mul (w_v 1) w_int) (w_intc (by rfl) m_int (w_cons (w_v 3) w_nil))) w_nil)) w_int))
 (w_sone (w_expr (w_append (w_v 2) (w_cons (w_abs (by rfl) m_abs (w_cons (w_intc (by rfl) m_int (w_cons (w_v 3) w_nil)) w_nil)) w_nil))))))
 (w_frz 2 (w_sone (w_ret (w_lstM (w_cons (w_v 2) (w_cons w_int (w_cons w_int (w_cons (w_v 1) w_nil)))))))))))⟩
theorem bi_l_hand {K : Fg} {f : Addr} {fd : FuncData} (Fd : FunD K "_law_hand" "_law_hand" (defArgs s_l_hand) (defBody s_l_hand) (defScope s_l_hand) [] [] f fd) : Binds K fd ["_law_script"] [] := FunD.bindsN Fd fun _ _ _ _ _ _ us hl => match us, hl with | [_], _ => rfl
theorem z_l_hand {P : Program} {w : World} {K : Fg} {mg : Str → Option Value} {base : Heap} (D : Dn K mg "_law_hand" s_l_hand) : C8.Cal P w K mg base 0 "_law_hand" (sp3 K fun _ _ _ => False) [] := D.zero bi_l_hand
theorem fok_l_hand {P : Program} {w : World} {K : Fg} {mg : Str → Option Value} {base : Heap} {k : Nat} {f : Addr} {fd : FuncData} (Fd : FunD K "_law_hand" "_law_hand" (defArgs s_l_hand) (defBody s_l_hand) (defScope s_l_hand) [] [] f fd) (m_len : mg "len" = none) (m_int : mg "int" = none) (m_abs : mg "abs" = none) {s : WF} (len : ∀ us μ Q, s us μ Q → us.length = 1)
    (h : ∀ us μ Q, s us μ Q → W_l_hand (E3 μ Q) (start3 N_l_hand us) μ) :
    FnOk P w K mg base C8.CX0 (k + 1) f fd ["_law_script"] (sp3 K s) :=
  fn3F Fd sc_l_hand len fun cdv A outer sh H E hr =>
    let ⟨t, ht⟩ := body_l_hand m_len m_int m_abs cdv f A outer sh H E hr
    ⟨t, _, ht, h⟩
theorem cal_l_hand {P : Program} {w : World} {K : Fg} {mg : Str → Option Value} {base : Heap} {k : Nat} (D : Dn K mg "_law_hand" s_l_hand) (m_len : mg "len" = none) (m_int : mg "int" = none) (m_abs : mg "abs" = none) {s : WF} (len : ∀ us μ Q, s us μ Q → us.length = 1)
    (h : ∀ us μ Q, s us μ Q → W_l_hand (E3 μ Q) (start3 N_l_hand us) μ) :
    C8.Cal P w K mg base (k + 1) "_law_hand" (sp3 K s) [] := by
  obtain ⟨f, fd, Fd, hmg⟩ := D.ex
  exact ⟨f, fd, _, [], fok_l_hand Fd m_len m_int m_abs len h, hmg, Fd.kp, bi_l_hand Fd, .nil⟩

/-! ### _law_stirred -/
abbrev s_l_stirred : Stmt := topS 14
abbrev N_l_stirred : List Str := ["_law_number", "_law_turn", "_law_once", "_law_twice"]
theorem sc_l_stirred : FnScope N_l_stirred ["_law_number", "_law_turn"] (defScope s_l_stirred) := ⟨rfl, rfl, rfl, by decide +kernel, rfl, by decide +kernel, by decide +kernel⟩
def W_l_stirred : WSt :=
  (wSeq (wAsg (wOp sMod (wQ qInt (wCons (wOp sAdd (wOp sAdd (wOp sMul (wV 0) (wC (.int 48017))) (wOp sMul (wV 1) (wC (.int 8821)))) (wC (.int 70001))) wNil)) (wC (.int 2147483423))) (gN 2))
  (wSeq (wAsg (wOp sMod (wQ qInt (wCons (wOp sAdd (wOp sAdd (wOp sMul (wV 2) (wV 2)) (wOp sMul (wV 1) (wC (.int 60017)))) (wOp sFdiv (wV 2) (wC (.int 151)))) wNil)) (wC (.int 2147483477))) (gN 3))
  (wRet (wOp sFdiv (wQ qInt (wCons (wOp sMod (wQ qInt (wCons (wOp sAdd (wOp sMul (wV 3) (wC (.int 51199))) (wOp sFdiv (wV 2) (wC (.int 17)))) wNil)) (wC (.int 2147483549))) wNil)) (wC (.int 128))))))
theorem body_l_stirred {P : Program} {w : World} {K : Fg} {mg : Str → Option Value} {base : Heap} {k : Nat} (m_int : mg "int" = none)
    (cdv : Value) (f : Addr) (A : Around) (outer : List Env) (sh : Shared) (H : Hp) (E : XK) (hr : Room k (A.deeper (envOfC "_law_stirred" (defScope s_l_stirred) sh.heap.objs.size f cdv))) :
    ∃ t, WSs (cxOf CX0 P w K mg base N_l_stirred "_law_stirred" (defScope s_l_stirred) f cdv A outer sh H E).nox (defBody s_l_stirred) t (W_l_stirred) := by
  have nd := sc_l_stirred.nd
  exact ⟨_, (w_scons (w_set 2 nd (w_mod (w_intc (by rfl) m_int (w_cons (w_add (w_add (w_mul (w_v 0) w_int) (w_mul (w_v 1) w_int)) w_int) w_nil)) w_int))
 (w_scons (w_set 3 nd (w_mod (w_intc (by rfl) m_int (w_cons (w_add (w_add (w_mul (w_v 2) (w_v 2)) (w_mul (w_v 1) w_int)) (w_fdiv (w_v 2) w_int)) w_nil)) w_int))
 (w_sone (w_ret (w_fdiv (w_intc (by rfl) m_int (w_cons (w_mod (w_intc (by rfl) m_int (w_cons (w_add (w_mul (w_v 3) w_int) (w_fdiv (w_v 2) w_int)) w_nil)) w_int) w_nil)) w_int)))))⟩
theorem bi_l_stirred {K : Fg} {f : Addr} {fd : FuncData} (Fd : FunD K "_law_stirred" "_law_stirred" (defArgs s_l_stirred) (defBody s_l_stirred) (defScope s_l_stirred) [] [] f fd) : Binds K fd ["_law_number", "_law_turn"] [] := FunD.bindsN Fd fun _ _ _ _ _ _ us hl => match us, hl with | [_, _], _ => rfl
theorem z_l_stirred {P : Program} {w : World} {K : Fg} {mg : Str → Option Value} {base : Heap} (D : Dn K mg "_law_stirred" s_l_stirred) : C8.Cal P w K mg base 0 "_law_stirred" (sp3 K fun _ _ _ => False) [] := D.zero bi_l_stirred
theorem fok_l_stirred {P : Program} {w : World} {K : Fg} {mg : Str → Option Value} {base : Heap} {k : Nat} {f : Addr} {fd : FuncData} (Fd : FunD K "_law_stirred" "_law_stirred" (defArgs s_l_stirred) (defBody s_l_stirred) (defScope s_l_stirred) [] [] f fd) (m_int : mg "int" = none) {s : WF} (len : ∀ us μ Q, s us μ Q → us.length = 2)
    (h : ∀ us μ Q, s us μ Q → W_l_stirred (E3 μ Q) (start3 N_l_stirred us) μ) :
    FnOk P w K mg base C8.CX0 (k + 1) f fd ["_law_number", "_law_turn"] (sp3 K s) :=
  fn3F Fd sc_l_stirred len fun cdv A outer sh H E hr =>
    let ⟨t, ht⟩ := body_l_stirred m_int cdv f A outer sh H E hr
    ⟨t, _, ht, h⟩
theorem cal_l_stirred {P : Program} {w : World} {K : Fg} {mg : Str → Option Value} {base : Heap} {k : Nat} (D : Dn K mg "_law_stirred" s_l_stirred) (m_int : mg "int" = none) {s : WF} (len : ∀ us μ Q, s us μ Q → us.length = 2)
    (h : ∀ us μ Q, s us μ Q → W_l_stirred (E3 μ Q) (start3 N_l_stirred us) μ) :
    C8.Cal P w K mg base (k + 1) "_law_stirred" (sp3 K s) [] := by
  obtain ⟨f, fd, Fd, hmg⟩ := D.ex
  exact ⟨f, fd, _, [], fok_l_stirred Fd m_int len h, hmg, Fd.kp, bi_l_stirred Fd, .nil⟩

/-! ### _law_take -/
abbrev s_l_take : Stmt := topS 15
abbrev N_l_take : List Str := ["_law_hand_here", "_law_many", "_law_cell", "_law_rest"]
theorem sc_l_take : FnScope N_l_take ["_law_hand_here", "_law_many"] (defScope s_l_take) := ⟨rfl, rfl, rfl, by decide +kernel, rfl, by decide +kernel, by decide +kernel⟩
def W_l_take (S_l_stirred : WF) : WSt :=
  (wOpen 0 (wSeq (wIfS (wAnd (wB (wOp (sEqA id) (wOp sIx (wV 0) (wC (.int 2))) (wC (.int 0)))) (wB (wOp sLt (wOp sIx (wV 0) (wC (.int 1))) (wQ qLenA (wCons (wOp sIx (wV 0) (wC (.int 0))) wNil))))) (wSeq (wAsg (wOp sIx (wOp sIx (wV 0) (wC (.int 0))) (wOp sIx (wV 0) (wC (.int 1)))) (gN 2))
  (wSeq (wAsg (wOp sAdd (wOp sIx (wV 0) (wC (.int 1))) (wC (.int 1))) (gIx (wV 0) (wC (.int 1))))
  (wSeq (wIfS (wB (wOp sLt (wV 2) (wOp sPow (wC (.int 10)) (wC (.int 18))))) (wRet (wOp sMod (wQ qInt (wCons (wCall S_l_stirred (wCons (wOp sMod (wQ qInt (wCons (wV 2) wNil)) (wC (.int 2147483423))) (wCons (wOp sIx (wV 0) (wC (.int 1))) wNil))) wNil)) (wV 1))) wNext)
  (wAsg (wV 2) (gIx (wV 0) (wC (.int 2))))))) wNext)
  (wSeq (wIfS (wB (wOp sGt (wOp sIx (wV 0) (wC (.int 2))) (wC (.int 0)))) (wSeq (wAsg (wOp sIx (wV 0) (wC (.int 2))) (gN 3))
  (wSeq (wAsg (wOp sFdiv (wQ qInt (wCons (wV 3) wNil)) (wV 1)) (gIx (wV 0) (wC (.int 2))))
  (wRet (wOp sMod (wQ qInt (wCons (wV 3) wNil)) (wV 1))))) wNext)
  (wSeq (wAsg (wOp sMod (wQ qInt (wCons (wOp sAdd (wOp sIx (wV 0) (wC (.int 3))) (wC (.int 1))) wNil)) (wC (.int 2147483477))) (gIx (wV 0) (wC (.int 3))))
  (wRet (wOp sMod (wQ qInt (wCons (wCall S_l_stirred (wCons (wOp sIx (wV 0) (wC (.int 3))) (wCons (wOp sIx (wV 0) (wC (.int 1))) wNil))) wNil)) (wV 1)))))))
theorem body_l_take {P : Program} {w : World} {K : Fg} {mg : Str → Option Value} {base : Heap} {k : Nat} {k_l_stirred : Nat} {S_l_stirred : WF} (c_l_stirred : C8.Cal P w K mg base k_l_stirred "_law_stirred" (sp3 K S_l_stirred) []) (h_l_stirred : k_l_stirred ≤ k) (m_len : mg "len" = none) (m_int : mg "int" = none)
    (cdv : Value) (f : Addr) (A : Around) (outer : List Env) (sh : Shared) (H : Hp) (E : XK) (hr : Room k (A.deeper (envOfC "_law_take" (defScope s_l_take) sh.heap.objs.size f cdv))) :
    ∃ t, WSs (cxOf CX0 P w K mg base N_l_take "_law_take" (defScope s_l_take) f cdv A outer sh H E).nox (defBody s_l_take) t (W_l_take S_l_stirred) := by
  have nd := sc_l_take.nd
  exact ⟨_, (w_open 0 (w_scons (w_ifS (w_ww (w_and (w_eq hr.units (w_ix (w_v 0) w_int) w_int).t (w_and1 (w_lt (w_ix (w_v 0) w_int) (w_len (by rfl) m_len (w_cons (w_ix (w_v 0) w_int) w_nil))).t)))
 (w_scons (w_set 2 nd (w_ix (w_ix (w_v 0) w_int) (w_ix (w_v 0) w_int)))
 (w_scons (w_asg (w_add (w_ix (w_v 0) w_int) w_int) (w_gix (w_v 0) w_int))
 (w_scons (w_ifS (w_lt (w_v 2) (w_pow w_int w_int)).t
 (w_sone (w_ret (w_mod (w_intc (by rfl) m_int (w_cons (w_call c_l_stirred hr h_l_stirred (by rfl) (w_cons (w_mod (w_intc (by rfl) m_int (w_cons (w_v 2) w_nil)) w_int) (w_cons (w_ix (w_v 0) w_int) w_nil))) w_nil)) (w_v 1))))
 w_snil)
 (w_sone (w_asg (w_v 2) (w_gix (w_v 0) w_int))))))
 w_snil)
 (w_scons (w_ifS (w_gt (w_ix (w_v 0) w_int) w_int).t
 (w_scons (w_set 3 nd (w_ix (w_v 0) w_int))
 (w_scons (w_asg (w_fdiv (w_intc (by rfl) m_int (w_cons (w_v 3) w_nil)) (w_v 1)) (w_gix (w_v 0) w_int))
 (w_sone (w_ret (w_mod (w_intc (by rfl) m_int (w_cons (w_v 3) w_nil)) (w_v 1))))))
 w_snil)
 (w_scons (w_asg (w_mod (w_intc (by rfl) m_int (w_cons (w_add (w_ix (w_v 0) w_int) w_int) w_nil)) w_int) (w_gix (w_v 0) w_int))
 (w_sone (w_ret (w_mod (w_intc (by rfl) m_int (w_cons (w_call c_l_stirred hr h_l_stirred (by rfl) (w_cons (w_ix (w_v 0) w_int) (w_cons (w_ix (w_v 0) w_int) w_nil))) w_nil)) (w_v 1))))))))⟩
theorem bi_l_take {K : Fg} {f : Addr} {fd : FuncData} (Fd : FunD K "_law_take" "_law_take" (defArgs s_l_take) (defBody s_l_take) (defScope s_l_take) [] [] f fd) : Binds K fd ["_law_hand_here", "_law_many"] [] := FunD.bindsN Fd fun _ _ _ _ _ _ us hl => match us, hl with | [_, _], _ => rfl
theorem z_l_take {P : Program} {w : World} {K : Fg} {mg : Str → Option Value} {base : Heap} (D : Dn K mg "_law_take" s_l_take) : C8.Cal P w K mg base 0 "_law_take" (sp3 K fun _ _ _ => False) [] := D.zero bi_l_take
theorem fok_l_take {P : Program} {w : World} {K : Fg} {mg : Str → Option Value} {base : Heap} {k : Nat} {f : Addr} {fd : FuncData} (Fd : FunD K "_law_take" "_law_take" (defArgs s_l_take) (defBody s_l_take) (defScope s_l_take) [] [] f fd) {k_l_stirred : Nat} {S_l_stirred : WF} (c_l_stirred : C8.Cal P w K mg base k_l_stirred "_law_stirred" (sp3 K S_l_stirred) []) (h_l_stirred : k_l_stirred ≤ k) (m_len : mg "len" = none) (m_int : mg "int" = none) {s : WF} (len : ∀ us μ Q, s us μ Q → us.length = 2)
    (h : ∀ us μ Q, s us μ Q → W_l_take S_l_stirred (E3 μ Q) (start3 N_l_take us) μ) :
    FnOk P w K mg base C8.CX0 (k + 1) f fd ["_law_hand_here", "_law_many"] (sp3 K s) :=
  fn3F Fd sc_l_take len fun cdv A outer sh H E hr =>
    let ⟨t, ht⟩ := body_l_take c_l_stirred h_l_stirred m_len m_int cdv f A outer sh H E hr
    ⟨t, _, ht, h⟩
theorem cal_l_take {P : Program} {w : World} {K : Fg} {mg : Str → Option Value} {base : Heap} {k : Nat} (D : Dn K mg "_law_take" s_l_take) {k_l_stirred : Nat} {S_l_stirred : WF} (c_l_stirred : C8.Cal P w K mg base k_l_stirred "_law_stirred" (sp3 K S_l_stirred) []) (h_l_stirred : k_l_stirred ≤ k) (m_len : mg "len" = none) (m_int : mg "int" = none) {s : WF} (len : ∀ us μ Q, s us μ Q → us.length = 2)
    (h : ∀ us μ Q, s us μ Q → W_l_take S_l_stirred (E3 μ Q) (start3 N_l_take us) μ) :
    C8.Cal P w K mg base (k + 1) "_law_take" (sp3 K s) [] := by
  obtain ⟨f, fd, Fd, hmg⟩ := D.ex
  exact ⟨f, fd, _, [], fok_l_take Fd c_l_stirred h_l_stirred m_len m_int len h, hmg, Fd.kp, bi_l_take Fd, .nil⟩

/-! ### _law_pick -/
abbrev s_l_pick : Stmt := topS 16
abbrev N_l_pick : List Str := ["_law_hand_here", "_law_things"]
theorem sc_l_pick : FnScope N_l_pick ["_law_hand_here", "_law_things"] (defScope s_l_pick) := ⟨rfl, rfl, rfl, by decide +kernel, rfl, by decide +kernel, by decide +kernel⟩
def W_l_pick (S_l_take : WF) : WSt :=
  (wRet (wOp sIx (wV 1) (wCall S_l_take (wCons (wV 0) (wCons (wQ qLenA (wCons (wV 1) wNil)) wNil)))))
theorem body_l_pick {P : Program} {w : World} {K : Fg} {mg : Str → Option Value} {base : Heap} {k : Nat} {k_l_take : Nat} {S_l_take : WF} (c_l_take : C8.Cal P w K mg base k_l_take "_law_take" (sp3 K S_l_take) []) (h_l_take : k_l_take ≤ k) (m_len : mg "len" = none)
    (cdv : Value) (f : Addr) (A : Around) (outer : List Env) (sh : Shared) (H : Hp) (E : XK) (hr : Room k (A.deeper (envOfC "_law_pick" (defScope s_l_pick) sh.heap.objs.size f cdv))) :
    ∃ t, WSs (cxOf CX0 P w K mg base N_l_pick "_law_pick" (defScope s_l_pick) f cdv A outer sh H E).nox (defBody s_l_pick) t (W_l_pick S_l_take) := by
  have nd := sc_l_pick.nd
  exact ⟨_, (w_sone (w_ret (w_ix (w_v 1) (w_call c_l_take hr h_l_take (by rfl) (w_cons (w_v 0) (w_cons (w_len (by rfl) m_len (w_cons (w_v 1) w_nil)) w_nil))))))⟩
theorem bi_l_pick {K : Fg} {f : Addr} {fd : FuncData} (Fd : FunD K "_law_pick" "_law_pick" (defArgs s_l_pick) (defBody s_l_pick) (defScope s_l_pick) [] [] f fd) : Binds K fd ["_law_hand_here", "_law_things"] [] := FunD.bindsN Fd fun _ _ _ _ _ _ us hl => match us, hl with | [_, _], _ => rfl
theorem z_l_pick {P : Program} {w : World} {K : Fg} {mg : Str → Option Value} {base : Heap} (D : Dn K mg "_law_pick" s_l_pick) : C8.Cal P w K mg base 0 "_law_pick" (sp3 K fun _ _ _ => False) [] := D.zero bi_l_pick
theorem fok_l_pick {P : Program} {w : World} {K : Fg} {mg : Str → Option Value} {base : Heap} {k : Nat} {f : Addr} {fd : FuncData} (Fd : FunD K "_law_pick" "_law_pick" (defArgs s_l_pick) (defBody s_l_pick) (defScope s_l_pick) [] [] f fd) {k_l_take : Nat} {S_l_take : WF} (c_l_take : C8.Cal P w K mg base k_l_take "_law_take" (sp3 K S_l_take) []) (h_l_take : k_l_take ≤ k) (m_len : mg "len" = none) {s : WF} (len : ∀ us μ Q, s us μ Q → us.length = 2)
    (h : ∀ us μ Q, s us μ Q → W_l_pick S_l_take (E3 μ Q) (start3 N_l_pick us) μ) :
    FnOk P w K mg base C8.CX0 (k + 1) f fd ["_law_hand_here", "_law_things"] (sp3 K s) :=
  fn3F Fd sc_l_pick len fun cdv A outer sh H E hr =>
    let ⟨t, ht⟩ := body_l_pick c_l_take h_l_take m_len cdv f A outer sh H E hr
    ⟨t, _, ht, h⟩
theorem cal_l_pick {P : Program} {w : World} {K : Fg} {mg : Str → Option Value} {base : Heap} {k : Nat} (D : Dn K mg "_law_pick" s_l_pick) {k_l_take : Nat} {S_l_take : WF} (c_l_take : C8.Cal P w K mg base k_l_take "_law_take" (sp3 K S_l_take) []) (h_l_take : k_l_take ≤ k) (m_len : mg "len" = none) {s : WF} (len : ∀ us μ Q, s us μ Q → us.length = 2)
    (h : ∀ us μ Q, s us μ Q → W_l_pick S_l_take (E3 μ Q) (start3 N_l_pick us) μ) :
    C8.Cal P w K mg base (k + 1) "_law_pick" (sp3 K s) [] := by
  obtain ⟨f, fd, Fd, hmg⟩ := D.ex
  exact ⟨f, fd, _, [], fok_l_pick Fd c_l_take h_l_take m_len len h, hmg, Fd.kp, bi_l_pick Fd, .nil⟩

/-! ### _law_shuffled -/
abbrev s_l_shuffled : Stmt := topS 17
abbrev N_l_shuffled : List Str := ["_law_hand_here", "_law_things", "_law_left", "_law_k"]
theorem sc_l_shuffled : FnScope N_l_shuffled ["_law_hand_here", "_law_things"] (defScope s_l_shuffled) := ⟨rfl, rfl, rfl, by decide +kernel, rfl, by decide +kernel, by decide +kernel⟩
def W_l_shuffled (S_l_take : WF) : WSt :=
  (wSeq (wAsg (wQ qListM (wCons (wV 1) wNil)) (gN 2))
  (wRet (wLc (jRng1 (wCons (wQ qLenA (wCons (wV 2) wNil)) wNil)) [3] (gN 3) wYes (wML mPopAt (wV 2) (wCons (wCall S_l_take (wCons (wV 0) (wCons (wQ qLenA (wCons (wV 2) wNil)) wNil))) wNil)))))
theorem body_l_shuffled {P : Program} {w : World} {K : Fg} {mg : Str → Option Value} {base : Heap} {k : Nat} {k_l_take : Nat} {S_l_take : WF} (c_l_take : C8.Cal P w K mg base k_l_take "_law_take" (sp3 K S_l_take) []) (h_l_take : k_l_take ≤ k) (m_list : mg "list" = none) (m_len : mg "len" = none) (m_range : mg "range" = none)
    (cdv : Value) (f : Addr) (A : Around) (outer : List Env) (sh : Shared) (H : Hp) (E : XK) (hr : Room k (A.deeper (envOfC "_law_shuffled" (defScope s_l_shuffled) sh.heap.objs.size f cdv))) :
    ∃ t, WSs (cxOf CX0 P w K mg base N_l_shuffled "_law_shuffled" (defScope s_l_shuffled) f cdv A outer sh H E).nox (defBody s_l_shuffled) t (W_l_shuffled S_l_take) := by
  have nd := sc_l_shuffled.nd
  exact ⟨_, (w_scons (w_set 2 nd (w_listcM (by rfl) m_list (w_cons (w_v 1) w_nil)))
 (w_sone (w_ret (w_lc1 "_law_k" 3 rfl nd (w_rng1 (by rfl) m_range (w_cons (w_len (by rfl) m_len (w_cons (w_v 2) w_nil)) w_nil)) (blkOk_by (N := N_l_shuffled) (sc := defScope s_l_shuffled) (by decide +kernel)) (go_name (by decide)) (w_gn 3 nd) w_tsnil (w_popAt (w_v 2) (w_cons (w_call c_l_take hr h_l_take (by rfl) (w_cons (w_v 0) (w_cons (w_len (by rfl) m_len (w_cons (w_v 2) w_nil)) w_nil))) w_nil)) (fun _ _ _ _ _ => (w_gn 3 nd)) (fun _ _ _ _ _ => w_tsnil) (fun _ _ _ _ _ => (w_popAt (w_v 2) (w_cons (w_call c_l_take hr h_l_take (by rfl) (w_cons (w_v 0) (w_cons (w_len (by rfl) m_len (w_cons (w_v 2) w_nil)) w_nil))) w_nil)))))))⟩
theorem bi_l_shuffled {K : Fg} {f : Addr} {fd : FuncData} (Fd : FunD K "_law_shuffled" "_law_shuffled" (defArgs s_l_shuffled) (defBody s_l_shuffled) (defScope s_l_shuffled) [] [] f fd) : Binds K fd ["_law_hand_here", "_law_things"] [] := FunD.bindsN Fd fun _ _ _ _ _ _ us hl => match us, hl with | [_, _], _ => rfl
theorem z_l_shuffled {P : Program} {w : World} {K : Fg} {mg : Str → Option Value} {base : Heap} (D : Dn K mg "_law_shuffled" s_l_shuffled) : C8.Cal P w K mg base 0 "_law_shuffled" (sp3 K fun _ _ _ => False) [] := D.zero bi_l_shuffled
theorem fok_l_shuffled {P : Program} {w : World} {K : Fg} {mg : Str → Option Value} {base : Heap} {k : Nat} {f : Addr} {fd : FuncData} (Fd : FunD K "_law_shuffled" "_law_shuffled" (defArgs s_l_shuffled) (defBody s_l_shuffled) (defScope s_l_shuffled) [] [] f fd) {k_l_take : Nat} {S_l_take : WF} (c_l_take : C8.Cal P w K mg base k_l_take "_law_take" (sp3 K S_l_take) []) (h_l_take : k_l_take ≤ k) (m_list : mg "list" = none) (m_len : mg "len" = none) (m_range : mg "range" = none) {s : WF} (len : ∀ us μ Q, s us μ Q → us.length = 2)
    (h : ∀ us μ Q, s us μ Q → W_l_shuffled S_l_take (E3 μ Q) (start3 N_l_shuffled us) μ) :
    FnOk P w K mg base C8.CX0 (k + 1) f fd ["_law_hand_here", "_law_things"] (sp3 K s) :=
  fn3F Fd sc_l_shuffled len fun cdv A outer sh H E hr =>
    let ⟨t, ht⟩ := body_l_shuffled c_l_take h_l_take m_list m_len m_range cdv f A outer sh H E hr
    ⟨t, _, ht, h⟩
theorem cal_l_shuffled {P : Program} {w : World} {K : Fg} {mg : Str → Option Value} {base : Heap} {k : Nat} (D : Dn K mg "_law_shuffled" s_l_shuffled) {k_l_take : Nat} {S_l_take : WF} (c_l_take : C8.Cal P w K mg base k_l_take "_law_take" (sp3 K S_l_take) []) (h_l_take : k_l_take ≤ k) (m_list : mg "list" = none) (m_len : mg "len" = none) (m_range : mg "range" = none) {s : WF} (len : ∀ us μ Q, s us μ Q → us.length = 2)
    (h : ∀ us μ Q, s us μ Q → W_l_shuffled S_l_take (E3 μ Q) (start3 N_l_shuffled us) μ) :
    C8.Cal P w K mg base (k + 1) "_law_shuffled" (sp3 K s) [] := by
  obtain ⟨f, fd, Fd, hmg⟩ := D.ex
  exact ⟨f, fd, _, [], fok_l_shuffled Fd c_l_take h_l_take m_list m_len m_range len h, hmg, Fd.kp, bi_l_shuffled Fd, .nil⟩

/-! ### law -/
abbrev s_p_law : Stmt := topS 18
abbrev N_p_law : List Str := ["_law_script", "_law_hand_here", "_law_switches", "_law_settings", "_law_row", "_law_values", "_law_table", "_law_word", "_law_due", "_law_a", "_law_told", "_law_turned", "_law_one", "_law_k", "_law_b"]
theorem sc_p_law : FnScope N_p_law ["_law_script"] (defScope s_p_law) := ⟨rfl, rfl, rfl, by decide +kernel, rfl, by decide +kernel, by decide +kernel⟩
def W_p_law (S_l_hand : WF) (S_l_gd_switches : WF) (S_l_take : WF) (S_l_gd_settings : WF) (S_l_shuffled : WF) (S_l_pick : WF) (S_l_gd_table : WF) (S_p_outcome_condition : WF) (S_l_gd_grown : WF) (S_p_deciding_switches : WF) : WSt :=
  (wSeq (wAsg (wCall S_l_hand (wCons (wV 0) wNil)) (gN 1))
  (wSeq (wAsg (wCall S_l_gd_switches (wCons (wV 1) (wCons (wOp sAdd (wC (.int 1)) (wCall S_l_take (wCons (wV 1) (wCons (wC (.int 4)) wNil)))) wNil))) (gN 2))
  (wSeq (wAsg (wCall S_l_gd_settings (wCons (wV 2) wNil)) (gN 3))
  (wSeq (wAsg (wLst (wCons (wTup (wCons (wC (.str (Str.ofString "value"))) (wCons (wTup (wCons (wC (.str (Str.ofString "number"))) (wCons (wC (.int 1)) wNil))) (wCons (wC (.int 0)) wNil)))) (wCons (wTup (wCons (wC (.str (Str.ofString "value"))) (wCons (wTup (wCons (wC (.str (Str.ofString "truth"))) (wCons (wC (.bool true)) wNil))) (wCons (wC (.int 0)) wNil)))) (wCons (wTup (wCons (wC (.str (Str.ofString "stuck"))) (wCons (wC (.int 3)) (wCons (wC (.int 1)) wNil)))) (wCons (wTup (wCons (wC (.str (Str.ofString "hole"))) (wCons (wC (.int 3)) (wCons (wC (.int 1)) wNil)))) (wCons (wTup (wCons (wC (.str (Str.ofString "fuel"))) (wCons (wC .none) (wCons (wC (.int 400)) wNil)))) wNil)))))) (gN 4))
  (wSeq (wAsg (wSl (wCall S_l_shuffled (wCons (wV 1) (wCons (wOp sAdd (wV 4) (wLst (wCons (wTup (wCons (wC (.str (Str.ofString "value"))) (wCons (wTup (wCons (wC (.str (Str.ofString "number"))) (wCons (wC (.int 0)) wNil))) (wCons (wC (.int 0)) wNil)))) (wCons (wTup (wCons (wC (.str (Str.ofString "value"))) (wCons (wTup (wCons (wC (.str (Str.ofString "number"))) (wCons (wC (.int 1)) wNil))) (wCons (wC (.int 1)) wNil)))) wNil)))) wNil))) wNoPart (wPart (wOp sAdd (wC (.int 1)) (wCall S_l_take (wCons (wV 1) (wCons (wC (.int 4)) wNil)))))) (gN 4))
  (wSeq (wAsg (wLc (jSeq (wV 3)) [12] (gN 12) wYes (wCall S_l_pick (wCons (wV 1) (wCons (wV 4) wNil)))) (gN 5))
  (wSeq (wAsg (wCall S_l_gd_table (wCons (wV 5) (wCons (wV 2) wNil))) (gN 6))
  (wSeq (wFor (jSeq (wLst (wCons (wC (.str (Str.ofString "value"))) (wCons (wC (.str (Str.ofString "hole"))) (wCons (wC (.str (Str.ofString "stuck"))) (wCons (wC (.str (Str.ofString "fuel"))) wNil)))))) (gN 7) (wIfS (wB (wOp (sEqA not) (wCall S_p_outcome_condition (wCons (wV 6) (wCons (wV 7) wNil))) (wCall S_l_gd_grown (wCons (wLc (jSeq (wV 5)) [12] (gN 12) wYes (wOp (sEqA id) (wOp sIx (wV 12) (wC (.int 0))) (wV 7))) (wCons (wV 2) wNil))))) (wRet (wC (.bool false))) wNext))
  (wSeq (wAsg (wLstM wNil) (gN 8))
  (wSeq (wFor (jSeq (wV 2)) (gN 9) (wSeq (wAsg (wLc (jSeq (wV 3)) [12] (gN 12) wYes (wML mIndexD (wV 3) (wCons (wQ qTuple (wCons (wLc (jSeq (wV 2)) [14] (gN 14) (wB (wOp (sEqA not) (wOp (sInA id) (wV 14) (wV 12)) (wOp (sEqA id) (wV 14) (wV 9)))) (wV 14)) wNil)) wNil))) (gN 11))
  (wIfS (wB (wOp (sEqA not) (wLc (jRng1 (wCons (wQ qLenA (wCons (wV 3) wNil)) wNil)) [13] (gN 13) (wB (wOp (sEqA not) (wOp sIx (wV 5) (wV 13)) (wOp sIx (wV 5) (wOp sIx (wV 11) (wV 13))))) (wV 13)) (wLst wNil))) (wDrop (wML mAppend (wV 8) (wCons (wV 9) wNil))) wNext)))
  (wSeq (wAsg (wCall S_p_deciding_switches (wCons (wV 6) wNil)) (gN 10))
  (wRet (wAndV (wIsi "tuple" (wV 10)) (wOp (sEqA id) (wV 10) (wQ qTuple (wCons (wV 8) wNil))))))))))))))))
theorem body_p_law {P : Program} {w : World} {K : Fg} {mg : Str → Option Value} {base : Heap} {k : Nat} {k_l_hand : Nat} {S_l_hand : WF} (c_l_hand : C8.Cal P w K mg base k_l_hand "_law_hand" (sp3 K S_l_hand) []) (h_l_hand : k_l_hand ≤ k) {k_l_gd_switches : Nat} {S_l_gd_switches : WF} (c_l_gd_switches : C8.Cal P w K mg base k_l_gd_switches "_law_gd_switches" (sp3 K S_l_gd_switches) []) (h_l_gd_switches : k_l_gd_switches ≤ k) {k_l_take : Nat} {S_l_take : WF} (c_l_take : C8.Cal P w K mg base k_l_take "_law_take" (sp3 K S_l_take) []) (h_l_take : k_l_take ≤ k) {k_l_gd_settings : Nat} {S_l_gd_settings : WF} (c_l_gd_settings : C8.Cal P w K mg base k_l_gd_settings "_law_gd_settings" (sp3 K S_l_gd_settings) []) (h_l_gd_settings : k_l_gd_settings ≤ k) {k_l_shuffled : Nat} {S_l_shuffled : WF} (c_l_shuffled : C8.Cal P w K mg base k_l_shuffled "_law_shuffled" (sp3 K S_l_shuffled) []) (h_l_shuffled : k_l_shuffled ≤ k) {k_l_pick : Nat} {S_l_pick : WF} (c_l_pick : C8.Cal P w K mg base k_l_pick "_law_pick" (sp3 K S_l_pick) []) (h_l_pick : k_l_pick ≤ k) {k_l_gd_table : Nat} {S_l_gd_table : WF} (c_l_gd_table : C8.Cal P w K mg base k_l_gd_table "_law_gd_table" (sp3 K S_l_gd_table) []) (h_l_gd_table : k_l_gd_table ≤ k) {k_p_outcome_condition : Nat} {S_p_outcome_condition : WF} (c_p_outcome_condition : C8.Cal P w K mg base k_p_outcome_condition "outcome_condition" (sp3 K S_p_outcome_condition) []) (h_p_outcome_condition : k_p_outcome_condition ≤ k) {k_l_gd_grown : Nat} {S_l_gd_grown : WF} (c_l_gd_grown : C8.Cal P w K mg base k_l_gd_grown "_law_gd_grown" (sp3 K S_l_gd_grown) []) (h_l_gd_grown : k_l_gd_grown ≤ k) {k_p_deciding_switches : Nat} {S_p_deciding_switches : WF} (c_p_deciding_switches : C8.Cal P w K mg base k_p_deciding_switches "deciding_switches" (sp3 K S_p_deciding_switches) []) (h_p_deciding_switches : k_p_deciding_switches ≤ k) (m_tuple : mg "tuple" = none) (m_len : mg "len" = none) (m_range : mg "range" = none) (m_isinstance : mg "isinstance" = none)
    (cdv : Value) (f : Addr) (A : Around) (outer : List Env) (sh : Shared) (H : Hp) (E : XK) (hr : Room k (A.deeper (envOfC "law" (defScope s_p_law) sh.heap.objs.size f cdv))) :
    ∃ t, WSs (cxOf CX0 P w K mg base N_p_law "law" (defScope s_p_law) f cdv A outer sh H E).nox (defBody s_p_law) t (W_p_law S_l_hand S_l_gd_switches S_l_take S_l_gd_settings S_l_shuffled S_l_pick S_l_gd_table S_p_outcome_condition S_l_gd_grown S_p_deciding_switches) := by
  have nd := sc_p_law.nd
  exact ⟨_, (w_scons (w_set 1 nd (w_call c_l_hand hr h_l_hand (by rfl) (w_cons (w_v 0) w_nil)))
 (w_scons (w_set 2 nd (w_call c_l_gd_switches hr h_l_gd_switches (by rfl) (w_cons (w_v 1) (w_cons (w_add w_int (w_call c_l_take hr h_l_take (by rfl) (w_cons (w_v 1) (w_cons w_int w_nil)))) w_nil))))
 (w_scons (w_set 3 nd (w_call c_l_gd_settings hr h_l_gd_settings (by rfl) (w_cons (w_v 2) w_nil)))
 (w_scons (w_set 4 nd (w_lst (w_cons (w_tup (w_cons w_str (w_cons (w_tup (w_cons w_str (w_cons w_int w_nil))) (w_cons w_int w_nil)))) (w_cons (w_tup (w_cons w_str (w_cons (w_tup (w_cons w_str (w_cons w_bl w_nil))) (w_cons w_int w_nil)))) (w_cons (w_tup (w_cons w_str (w_cons w_int (w_cons w_int w_nil)))) (w_cons (w_tup (w_cons w_str (w_cons w_int (w_cons w_int w_nil)))) (w_cons (w_tup (w_cons w_str (w_cons w_non (w_cons w_int w_nil)))) w_nil)))))))
 (w_scons (w_set 4 nd (w_sl (w_call c_l_shuffled hr h_l_shuffled (by rfl) (w_cons (w_v 1) (w_cons (w_add (w_v 4) (w_lst (w_cons (w_tup (w_cons w_str (w_cons (w_tup (w_cons w_str (w_cons w_int w_nil))) (w_cons w_int w_nil)))) (w_cons (w_tup (w_cons w_str (w_cons (w_tup (w_cons w_str (w_cons w_int w_nil))) (w_cons w_int w_nil)))) w_nil)))) w_nil))) w_noPart (w_part (w_add w_int (w_call c_l_take hr h_l_take (by rfl) (w_cons (w_v 1) (w_cons w_int w_nil)))))))
 (w_scons (w_set 5 nd (w_lc1 "_law_one" 12 rfl nd (w_seq (w_v 3)) (blkOk_by (N := N_p_law) (sc := defScope s_p_law) (by decide +kernel)) (go_name (by decide)) (w_gn 12 nd) w_tsnil (w_call c_l_pick hr h_l_pick (by rfl) (w_cons (w_v 1) (w_cons (w_v 4) w_nil))) (fun _ _ _ _ _ => (w_gn 12 nd)) (fun _ _ _ _ _ => w_tsnil) (fun _ _ _ _ _ => (w_call c_l_pick hr h_l_pick (by rfl) (w_cons (w_v 1) (w_cons (w_v 4) w_nil))))))
 (w_scons (w_set 6 nd (w_call c_l_gd_table hr h_l_gd_table (by rfl) (w_cons (w_v 5) (w_cons (w_v 2) w_nil))))
 (w_scons (w_for PassesOwn.never rfl (w_seq (w_lst (w_cons w_str (w_cons w_str (w_cons w_str (w_cons w_str w_nil)))))) (w_gn 7 nd)
 (w_sone (w_ifS (w_ne hr.units (w_call c_p_outcome_condition hr h_p_outcome_condition (by rfl) (w_cons (w_v 6) (w_cons (w_v 7) w_nil))) (w_call c_l_gd_grown hr h_l_gd_grown (by rfl) (w_cons (w_lc1 "_law_one" 12 rfl nd (w_seq (w_v 5)) (blkOk_by (N := N_p_law) (sc := defScope s_p_law) (by decide +kernel)) (go_name (by decide)) (w_gn 12 nd) w_tsnil (w_eq hr.units (w_ix (w_v 12) w_int) (w_v 7)).e (fun _ _ _ _ _ => (w_gn 12 nd)) (fun _ _ _ _ _ => w_tsnil) (fun _ _ _ _ _ => (w_eq hr.units (w_ix (w_v 12) w_int) (w_v 7)).e)) (w_cons (w_v 2) w_nil)))).t
 (w_sone (w_ret w_bl))
 w_snil)))
 (w_scons (w_set 8 nd (w_lstM w_nil))
 (w_scons (w_for PassesOwn.never rfl (w_seq (w_v 2)) (w_gn 9 nd)
 (w_scons (w_set 11 nd (w_lc1 "_law_one" 12 rfl nd (w_seq (w_v 3)) (blkOk_by (N := N_p_law) (sc := defScope s_p_law) (by decide +kernel)) (go_name (by decide)) (w_gn 12 nd) w_tsnil (w_indexD (units65 hr) (w_v 3) (w_cons (w_tuplec (by rfl) m_tuple (w_cons (w_lc1 "_law_b" 14 rfl nd (w_seq (w_v 2)) (blkOk_by (N := N_p_law) (by simp only [Cx.blk, compEnvC, relS_eq]; exact (show blkC _ (L3.relS _ (defScope s_p_law)) _ _ = true by decide +kernel))) (go_name (by decide)) (w_gn 14 nd) (w_tsone (w_ne hr.units (w_in (w_v 14) (w_v 12)).e (w_eq hr.units (w_v 14) (w_v 9)).e).t) (w_v 14) (fun _ _ _ _ _ => (w_gn 14 nd)) (fun _ _ _ _ _ => (w_tsone (w_ne hr.units (w_in (w_v 14) (w_v 12)).e (w_eq hr.units (w_v 14) (w_v 9)).e).t)) (fun _ _ _ _ _ => (w_v 14))) w_nil)) w_nil)) (fun _ _ _ _ _ => (w_gn 12 nd)) (fun _ _ _ _ _ => w_tsnil) (fun _ _ _ _ _ => (w_indexD (units65 hr) (w_v 3) (w_cons (w_tuplec (by rfl) m_tuple (w_cons (w_lc1 "_law_b" 14 rfl nd (w_seq (w_v 2)) (blkOk_by (N := N_p_law) (by simp only [Cx.blk, compEnvC, relS_eq]; exact (show blkC _ (L3.relS _ (defScope s_p_law)) _ _ = true by decide +kernel))) (go_name (by decide)) (w_gn 14 nd) (w_tsone (w_ne hr.units (w_in (w_v 14) (w_v 12)).e (w_eq hr.units (w_v 14) (w_v 9)).e).t) (w_v 14) (fun _ _ _ _ _ => (w_gn 14 nd)) (fun _ _ _ _ _ => (w_tsone (w_ne hr.units (w_in (w_v 14) (w_v 12)).e (w_eq hr.units (w_v 14) (w_v 9)).e).t)) (fun _ _ _ _ _ => (w_v 14))) w_nil)) w_nil)))))
 (w_sone (w_ifS (w_ne hr.units (w_lc1 "_law_k" 13 rfl nd (w_rng1 (by rfl) m_range (w_cons (w_len (by rfl) m_len (w_cons (w_v 3) w_nil)) w_nil)) (blkOk_by (N := N_p_law) (sc := defScope s_p_law) (by decide +kernel)) (go_name (by decide)) (w_gn 13 nd) (w_tsone (w_ne hr.units (w_ix (w_v 5) (w_v 13)) (w_ix (w_v 5) (w_ix (w_v 11) (w_v 13)))).t) (w_v 13) (fun _ _ _ _ _ => (w_gn 13 nd)) (fun _ _ _ _ _ => (w_tsone (w_ne hr.units (w_ix (w_v 5) (w_v 13)) (w_ix (w_v 5) (w_ix (w_v 11) (w_v 13)))).t)) (fun _ _ _ _ _ => (w_v 13))) (w_lst w_nil)).t
 (w_sone (w_expr (w_append (w_v 8) (w_cons (w_v 9) w_nil))))
 w_snil))))
 (w_scons (w_set 10 nd (w_call c_p_deciding_switches hr h_p_deciding_switches (by rfl) (w_cons (w_v 6) w_nil)))
 (w_sone (w_ret (w_andV (w_isi (by rfl) m_isinstance boot_isinstance (by rfl) m_tuple boot_tuple' (w_v 10)) (w_one (w_eq hr.units (w_v 10) (w_tuplec (by rfl) m_tuple (w_cons (w_v 8) w_nil))).e)))))))))))))))⟩
theorem bi_p_law {K : Fg} {f : Addr} {fd : FuncData} (Fd : FunD K "law" "law" (defArgs s_p_law) (defBody s_p_law) (defScope s_p_law) [] [] f fd) : Binds K fd ["_law_script"] [] := FunD.bindsN Fd fun _ _ _ _ _ _ us hl => match us, hl with | [_], _ => rfl
theorem z_p_law {P : Program} {w : World} {K : Fg} {mg : Str → Option Value} {base : Heap} (D : Dn K mg "law" s_p_law) : C8.Cal P w K mg base 0 "law" (sp3 K fun _ _ _ => False) [] := D.zero bi_p_law
theorem fok_p_law {P : Program} {w : World} {K : Fg} {mg : Str → Option Value} {base : Heap} {k : Nat} {f : Addr} {fd : FuncData} (Fd : FunD K "law" "law" (defArgs s_p_law) (defBody s_p_law) (defScope s_p_law) [] [] f fd) {k_l_hand : Nat} {S_l_hand : WF} (c_l_hand : C8.Cal P w K mg base k_l_hand "_law_hand" (sp3 K S_l_hand) []) (h_l_hand : k_l_hand ≤ k) {k_l_gd_switches : Nat} {S_l_gd_switches : WF} (c_l_gd_switches : C8.Cal P w K mg base k_l_gd_switches "_law_gd_switches" (sp3 K S_l_gd_switches) []) (h_l_gd_switches : k_l_gd_switches ≤ k) {k_l_take : Nat} {S_l_take : WF} (c_l_take : C8.Cal P w K mg base k_l_take "_law_take" (sp3 K S_l_take) []) (h_l_take : k_l_take ≤ k) {k_l_gd_settings : Nat} {S_l_gd_settings : WF} (c_l_gd_settings : C8.Cal P w K mg base k_l_gd_settings "_law_gd_settings" (sp3 K S_l_gd_settings) []) (h_l_gd_settings : k_l_gd_settings ≤ k) {k_l_shuffled : Nat} {S_l_shuffled : WF} (c_l_shuffled : C8.Cal P w K mg base k_l_shuffled "_law_shuffled" (sp3 K S_l_shuffled) []) (h_l_shuffled : k_l_shuffled ≤ k) {k_l_pick : Nat} {S_l_pick : WF} (c_l_pick : C8.Cal P w K mg base k_l_pick "_law_pick" (sp3 K S_l_pick) []) (h_l_pick : k_l_pick ≤ k) {k_l_gd_table : Nat} {S_l_gd_table : WF} (c_l_gd_table : C8.Cal P w K mg base k_l_gd_table "_law_gd_table" (sp3 K S_l_gd_table) []) (h_l_gd_table : k_l_gd_table ≤ k) {k_p_outcome_condition : Nat} {S_p_outcome_condition : WF} (c_p_outcome_condition : C8.Cal P w K mg base k_p_outcome_condition "outcome_condition" (sp3 K S_p_outcome_condition) []) (h_p_outcome_condition : k_p_outcome_condition ≤ k) {k_l_gd_grown : Nat} {S_l_gd_grown : WF} (c_l_gd_grown : C8.Cal P w K mg base k_l_gd_grown "_law_gd_grown" (sp3 K S_l_gd_grown) []) (h_l_gd_grown : k_l_gd_grown ≤ k) {k_p_deciding_switches : Nat} {S_p_deciding_switches : WF} (c_p_deciding_switches : C8.Cal P w K mg base k_p_deciding_switches "deciding_switches" (sp3 K S_p_deciding_switches) []) (h_p_deciding_switches : k_p_deciding_switches ≤ k) (m_tuple : mg "tuple" = none) (m_len : mg "len" = none) (m_range : mg "range" = none) (m_isinstance : mg "isinstance" = none) {s : WF} (len : ∀ us μ Q, s us μ Q → us.length = 1)
    (h : ∀ us μ Q, s us μ Q → W_p_law S_l_hand S_l_gd_switches S_l_take S_l_gd_settings S_l_shuffled S_l_pick S_l_gd_table S_p_outcome_condition S_l_gd_grown S_p_deciding_switches (E3 μ Q) (start3 N_p_law us) μ) :
    FnOk P w K mg base C8.CX0 (k + 1) f fd ["_law_script"] (sp3 K s) :=
  fn3F Fd sc_p_law len fun cdv A outer sh H E hr =>
    let ⟨t, ht⟩ := body_p_law c_l_hand h_l_hand c_l_gd_switches h_l_gd_switches c_l_take h_l_take c_l_gd_settings h_l_gd_settings c_l_shuffled h_l_shuffled c_l_pick h_l_pick c_l_gd_table h_l_gd_table c_p_outcome_condition h_p_outcome_condition c_l_gd_grown h_l_gd_grown c_p_deciding_switches h_p_deciding_switches m_tuple m_len m_range m_isinstance cdv f A outer sh H E hr
    ⟨t, _, ht, h⟩
theorem cal_p_law {P : Program} {w : World} {K : Fg} {mg : Str → Option Value} {base : Heap} {k : Nat} (D : Dn K mg "law" s_p_law) {k_l_hand : Nat} {S_l_hand : WF} (c_l_hand : C8.Cal P w K mg base k_l_hand "_law_hand" (sp3 K S_l_hand) []) (h_l_hand : k_l_hand ≤ k) {k_l_gd_switches : Nat} {S_l_gd_switches : WF} (c_l_gd_switches : C8.Cal P w K mg base k_l_gd_switches "_law_gd_switches" (sp3 K S_l_gd_switches) []) (h_l_gd_switches : k_l_gd_switches ≤ k) {k_l_take : Nat} {S_l_take : WF} (c_l_take : C8.Cal P w K mg base k_l_take "_law_take" (sp3 K S_l_take) []) (h_l_take : k_l_take ≤ k) {k_l_gd_settings : Nat} {S_l_gd_settings : WF} (c_l_gd_settings : C8.Cal P w K mg base k_l_gd_settings "_law_gd_settings" (sp3 K S_l_gd_settings) []) (h_l_gd_settings : k_l_gd_settings ≤ k) {k_l_shuffled : Nat} {S_l_shuffled : WF} (c_l_shuffled : C8.Cal P w K mg base k_l_shuffled "_law_shuffled" (sp3 K S_l_shuffled) []) (h_l_shuffled : k_l_shuffled ≤ k) {k_l_pick : Nat} {S_l_pick : WF} (c_l_pick : C8.Cal P w K mg base k_l_pick "_law_pick" (sp3 K S_l_pick) []) (h_l_pick : k_l_pick ≤ k) {k_l_gd_table : Nat} {S_l_gd_table : WF} (c_l_gd_table : C8.Cal P w K mg base k_l_gd_table "_law_gd_table" (sp3 K S_l_gd_table) []) (h_l_gd_table : k_l_gd_table ≤ k) {k_p_outcome_condition : Nat} {S_p_outcome_condition : WF} (c_p_outcome_condition : C8.Cal P w K mg base k_p_outcome_condition "outcome_condition" (sp3 K S_p_outcome_condition) []) (h_p_outcome_condition : k_p_outcome_condition ≤ k) {k_l_gd_grown : Nat} {S_l_gd_grown : WF} (c_l_gd_grown : C8.Cal P w K mg base k_l_gd_grown "_law_gd_grown" (sp3 K S_l_gd_grown) []) (h_l_gd_grown : k_l_gd_grown ≤ k) {k_p_deciding_switches : Nat} {S_p_deciding_switches : WF} (c_p_deciding_switches : C8.Cal P w K mg base k_p_deciding_switches "deciding_switches" (sp3 K S_p_deciding_switches) []) (h_p_deciding_switches : k_p_deciding_switches ≤ k) (m_tuple : mg "tuple" = none) (m_len : mg "len" = none) (m_range : mg "range" = none) (m_isinstance : mg "isinstance" = none) {s : WF} (len : ∀ us μ Q, s us μ Q → us.length = 1)
    (h : ∀ us μ Q, s us μ Q → W_p_law S_l_hand S_l_gd_switches S_l_take S_l_gd_settings S_l_shuffled S_l_pick S_l_gd_table S_p_outcome_condition S_l_gd_grown S_p_deciding_switches (E3 μ Q) (start3 N_p_law us) μ) :
    C8.Cal P w K mg base (k + 1) "law" (sp3 K s) [] := by
  obtain ⟨f, fd, Fd, hmg⟩ := D.ex
  exact ⟨f, fd, _, [], fok_p_law Fd c_l_hand h_l_hand c_l_gd_switches h_l_gd_switches c_l_take h_l_take c_l_gd_settings h_l_gd_settings c_l_shuffled h_l_shuffled c_l_pick h_l_pick c_l_gd_table h_l_gd_table c_p_outcome_condition h_p_outcome_condition c_l_gd_grown h_l_gd_grown c_p_deciding_switches h_p_deciding_switches m_tuple m_len m_range m_isinstance len h, hmg, Fd.kp, bi_p_law Fd, .nil⟩
end K57

namespace K57
open PySem PySem.Spec PyProof.Rows L2 L3 Cn
section
variable {P : Program} {w : World} {K : Fg} {mg : Str → Option Value} {base : Heap}
def S_side : WF := fun us μ Q => ∃ (c : T) (s : Str) (on : Bool), us = [.d c.d, .d (.str s), .d (.bool on)] ∧ Q (.d (sd s on c).d) μ
theorem side_ok (D : Dn K mg "_side" s_p__side) (m1 : mg "isinstance" = none) (m2 : mg "tuple" = none) : C8.Cal P w K mg base 1 "_side" (sp3 K S_side) [] :=
  cal_p__side D m1 m2 (fun us μ Q ⟨_, _, _, e, _⟩ => by rw [e]; rfl) fun us μ Q ⟨c, s, on, e, q⟩ => by
    subst e
    cases c with
    | lit b =>
      simp [wSeq, wIfS, wRet, wRetN, wNext, wDrop, wAsg, wAug, wBreak, wCont, wV, wC, wB, L3.wTru, L3.wNot, wAnd, wOr, wAndV, wOrV, wNotV, L3.wIf, wNeg, wOp, wCall, wQ, wML, wNil, wCons, wTup, wLst, wLstM, wIsi, wSl, wPart, wNoPart, wMinD, wJoin, wFrz, gN, sIx, sIs, sIsN, sI, sI0, truU, tyOk, tyU, isTruth, L3.isNon, itemsU, listU, ixU, qInt, qAbs, qStr, L3.max_int, start3, L3.kk_nb, L3.kk_nt, L3.kk_ni, L3.kk_ns, L3.kk_nl, L3.kk_bb, L3.kk_bt, L3.kk_bi, L3.kk_bs, L3.kk_bl, L3.kk_ib, L3.kk_it, L3.kk_ii, L3.kk_is, L3.kk_il, L3.kk_sb, L3.kk_st, L3.kk_si, L3.kk_ss, L3.kk_sl, L3.kk_tb, L3.kk_tt, L3.kk_ti, L3.kk_ts, L3.kk_tl, L3.kk_lb, L3.kk_lt, L3.kk_li, L3.kk_ls, L3.kk_ll, L3.at_0, L3.at_1, L3.at_2, L3.at_3, L3.eqA_int, L3.eqA_str, L3.eqA_bl, L3.lt_int, L3.gt_int, L3.le_int, L3.ge_int, L3.lt_str, L3.gt_str, L3.le_str, L3.ge_str, L3.add_int, L3.add_str, L3.exd, L3.exd0, L3.exd1, L3.exd2, L3.exd3, L3.exd4, L3.min_int, L3.min_str, L3.len_str, L3.len_lst, L3.len_tup, W_p__side, T.d]
      exact rtE q
    | nd z a b =>
      simp [wSeq, wIfS, wRet, wRetN, wNext, wDrop, wAsg, wAug, wBreak, wCont, wV, wC, wB, L3.wTru, L3.wNot, wAnd, wOr, wAndV, wOrV, wNotV, L3.wIf, wNeg, wOp, wCall, wQ, wML, wNil, wCons, wTup, wLst, wLstM, wIsi, wSl, wPart, wNoPart, wMinD, wJoin, wFrz, gN, sIx, sIs, sIsN, sI, sI0, truU, tyOk, tyU, isTruth, L3.isNon, itemsU, listU, ixU, qInt, qAbs, qStr, L3.max_int, start3, L3.kk_nb, L3.kk_nt, L3.kk_ni, L3.kk_ns, L3.kk_nl, L3.kk_bb, L3.kk_bt, L3.kk_bi, L3.kk_bs, L3.kk_bl, L3.kk_ib, L3.kk_it, L3.kk_ii, L3.kk_is, L3.kk_il, L3.kk_sb, L3.kk_st, L3.kk_si, L3.kk_ss, L3.kk_sl, L3.kk_tb, L3.kk_tt, L3.kk_ti, L3.kk_ts, L3.kk_tl, L3.kk_lb, L3.kk_lt, L3.kk_li, L3.kk_ls, L3.kk_ll, L3.at_0, L3.at_1, L3.at_2, L3.at_3, L3.eqA_int, L3.eqA_str, L3.eqA_bl, L3.lt_int, L3.gt_int, L3.le_int, L3.ge_int, L3.lt_str, L3.gt_str, L3.le_str, L3.ge_str, L3.add_int, L3.add_str, L3.exd, L3.exd0, L3.exd1, L3.exd2, L3.exd3, L3.exd4, L3.min_int, L3.min_str, L3.len_str, L3.len_lst, L3.len_tup, W_p__side, T.d]
      by_cases h : z = s
      · subst h
        rw [sd_nd] at q
        cases on with
        | true => exact .inr ⟨rfl, .inr ⟨rfl, rtE q⟩⟩
        | false => exact .inr ⟨rfl, .inl ⟨rfl, rtE q⟩⟩
      · rw [show sd s on (T.nd z a b) = T.nd z a b from if_neg h] at q
        exact .inl ⟨h, rtE q⟩
theorem eqA_T {a b : T} {μ : Mu} {Q : XP} {f : Bool → Bool} (na : a.nm) (nb : b.nm) (ha : a.h ≤ 64) (hb : b.h ≤ 64) (h1 : a = b → Q (.d (.bool (f true))) μ) (h2 : a ≠ b → Q (.d (.bool (f false))) μ) : sEqA f (.d a.d) (.d b.d) μ Q := by
  have h : sEq f (.d a.d) (.d b.d) μ Q := by
    refine ⟨_, _, rfl, rfl, shp na ha, shp nb hb, ?_⟩
    rcases eqv_dd a b with ⟨e, h⟩ | ⟨e, h⟩
    · rw [e]; exact h1 h
    · rw [e]; exact h2 h
  cases a with
  | nd s u v => exact h
  | lit x =>
    cases b with
    | nd z p q => exact h
    | lit y =>
      show Q (.d (.bool (f (decide (x = y))))) μ
      by_cases e : x = y
      · subst e; rw [decide_eq_true rfl]; exact h1 rfl
      · rw [decide_eq_false e]; exact h2 fun k => e (by cases k; rfl)
def S_node : WF := fun us μ Q => ∃ (s : Str) (a b : T), us = [.d (.str s), .d a.d, .d b.d] ∧ a.nm ∧ b.nm ∧ a.h ≤ 64 ∧ b.h ≤ 64 ∧ Q (.d (node s a b).d) μ
theorem node_okC (D : Dn K mg "_node" s_p__node) : C8.Cal P w K mg base 1 "_node" (sp3 K S_node) [] :=
  cal_p__node D (fun us μ Q ⟨_, _, _, e, _⟩ => by rw [e]; rfl) fun us μ Q ⟨s, a, b, e, na, nb, ha, hb, q⟩ => by
    subst e
    simp [wSeq, wIfS, wRet, wRetN, wNext, wDrop, wAsg, wAug, wBreak, wCont, wV, wC, wB, L3.wTru, L3.wNot, wAnd, wOr, wAndV, wOrV, wNotV, L3.wIf, wNeg, wOp, wCall, wQ, wML, wNil, wCons, wTup, wLst, wLstM, wIsi, wSl, wPart, wNoPart, wMinD, wJoin, wFrz, gN, sIx, sIs, sIsN, sI, sI0, truU, tyOk, tyU, isTruth, L3.isNon, itemsU, listU, ixU, qInt, qAbs, qStr, L3.max_int, start3, L3.kk_nb, L3.kk_nt, L3.kk_ni, L3.kk_ns, L3.kk_nl, L3.kk_bb, L3.kk_bt, L3.kk_bi, L3.kk_bs, L3.kk_bl, L3.kk_ib, L3.kk_it, L3.kk_ii, L3.kk_is, L3.kk_il, L3.kk_sb, L3.kk_st, L3.kk_si, L3.kk_ss, L3.kk_sl, L3.kk_tb, L3.kk_tt, L3.kk_ti, L3.kk_ts, L3.kk_tl, L3.kk_lb, L3.kk_lt, L3.kk_li, L3.kk_ls, L3.kk_ll, L3.at_0, L3.at_1, L3.at_2, L3.at_3, L3.eqA_int, L3.eqA_str, L3.eqA_bl, L3.lt_int, L3.gt_int, L3.le_int, L3.ge_int, L3.lt_str, L3.gt_str, L3.le_str, L3.ge_str, L3.add_int, L3.add_str, L3.exd, L3.exd0, L3.exd1, L3.exd2, L3.exd3, L3.exd4, L3.min_int, L3.min_str, L3.len_str, L3.len_lst, L3.len_tup, W_p__node]
    refine eqA_T na nb ha hb (fun e => ?_) fun e => ?_
    · rw [node_eq e] at q
      exact .inr ⟨rfl, rtE q⟩
    · rw [node_ne e] at q
      exact .inl ⟨rfl, by decide, rtE q⟩
def S_ap (f : Bool → Bool → Bool) (n : Nat) : WF := fun us μ Q => ∃ c o : T, us = [.d c.d, .d o.d] ∧ c.ok ∧ o.ok ∧ c.nm ∧ o.nm ∧ c.h + o.h ≤ n ∧ c.h + o.h ≤ 60 ∧ ∀ r, Ap f c o r → Q (.d r.d) μ
theorem len_ap {f : Bool → Bool → Bool} {n : Nat} : ∀ us μ Q, S_ap f n us μ Q → us.length = 2 := fun us μ Q ⟨_, _, e, _⟩ => by rw [e]; rfl
theorem ap_lit {f : Bool → Bool → Bool} {c o : T} {b : Bool} (h : ∀ σ, b = f (c.ev σ) (o.ev σ)) : Ap f c o (.lit b) := ⟨trivial, trivial, h, fun _ _ _ => trivial, Nat.zero_le _⟩
theorem ap_one {f : Bool → Bool → Bool} {c o : T} (k : c.ok) (n : c.nm) (h : ∀ σ, c.ev σ = f (c.ev σ) (o.ev σ)) : Ap f c o c := ⟨k, n, h, fun _ h _ => h, Nat.le_add_right _ _⟩
theorem ap_two {f : Bool → Bool → Bool} {c o : T} (k : o.ok) (n : o.nm) (h : ∀ σ, o.ev σ = f (c.ev σ) (o.ev σ)) : Ap f c o o := ⟨k, n, h, fun _ _ h => h, Nat.le_add_left _ _⟩
structure Mn (s : Str) (c o : T) : Prop where
  ok : PyData.strOk s = true
  gc : Ge s c
  go : Ge s o
  ex : (∃ a b, c = .nd s a b) ∨ ∃ a b, o = .nd s a b
theorem mn_ok {x y : Str} {a b p q : T} (n1 : (T.nd x a b).nm) (n2 : (T.nd y p q).nm) : Mn (if L3M.ltS y x = true then y else x) (.nd x a b) (.nd y p q) := by
  cases h : L3M.ltS y x with
  | true =>
    rw [if_pos rfl]
    exact ⟨n2.1, .inl h, .inr ⟨_, _, rfl⟩, .inr ⟨_, _, rfl⟩⟩
  | false =>
    rw [if_neg Bool.false_ne_true]
    refine ⟨n1.1, .inr ⟨_, _, rfl⟩, ?_, .inl ⟨_, _, rfl⟩⟩
    rcases L3M.ltS_le h with h | h
    · exact .inl h
    · subst h; exact .inr ⟨_, _, rfl⟩
theorem Mn.less {s : Str} {c o : T} (m : Mn s c o) (c1 : c.ok) (c2 : c.nm) (o1 : o.ok) (o2 : o.nm) (on : Bool) : (sd s on c).h + (sd s on o).h + 1 ≤ c.h + o.h := by
  have k1 := (sd_ok (on := on) c1 c2 m.gc).hl
  have k2 := (sd_ok (on := on) o1 o2 m.go).hl
  rcases m.ex with ⟨a, b, rfl⟩ | ⟨a, b, rfl⟩
  · have := sd_less (s := s) (on := on) (a := a) (b := b)
    omega
  · have := sd_less (s := s) (on := on) (a := a) (b := b)
    omega
theorem ap_step {f : Bool → Bool → Bool} {n : Nat} {x y : Str} {a b p q : T} {μ : Mu} {R : XP} (c1 : (T.nd x a b).ok) (c2 : (T.nd x a b).nm) (o1 : (T.nd y p q).ok) (o2 : (T.nd y p q).nm) (hn : (T.nd x a b).h + (T.nd y p q).h ≤ n + 1) (h60 : (T.nd x a b).h + (T.nd y p q).h ≤ 60)
    (k : ∀ r, Ap f (.nd x a b) (.nd y p q) r → R (.d r.d) μ) :
    S_side [.d (T.nd x a b).d, .d (.str (if L3M.ltS y x = true then y else x)), .d (.bool true)] μ fun u1 μ1 => S_side [.d (T.nd y p q).d, .d (.str (if L3M.ltS y x = true then y else x)), .d (.bool true)] μ1 fun u2 μ2 => S_ap f n [u1, u2] μ2 fun r1 μ3 =>
      S_side [.d (T.nd x a b).d, .d (.str (if L3M.ltS y x = true then y else x)), .d (.bool false)] μ3 fun u1 μ1 => S_side [.d (T.nd y p q).d, .d (.str (if L3M.ltS y x = true then y else x)), .d (.bool false)] μ1 fun u2 μ2 => S_ap f n [u1, u2] μ2 fun r2 μ3 => S_node [.d (.str (if L3M.ltS y x = true then y else x)), r1, r2] μ3 R := by
  have m := mn_ok c2 o2
  generalize (if L3M.ltS y x = true then y else x) = s at m ⊢
  have l := fun on => m.less c1 c2 o1 o2 on
  have sc := fun on => sd_ok (on := on) c1 c2 m.gc
  have so := fun on => sd_ok (on := on) o1 o2 m.go
  have l1 := l true
  have l2 := l false
  refine ⟨_, _, _, rfl, _, _, _, rfl, _, _, rfl, (sc true).ok, (so true).ok, (sc true).nm, (so true).nm, by omega, by omega, fun r1 h1 => ⟨_, _, _, rfl, _, _, _, rfl, _, _, rfl, (sc false).ok, (so false).ok, (sc false).nm, (so false).nm, by omega, by omega, fun r2 h2 => ?_⟩⟩
  have e1 := h1.h
  have e2 := h2.h
  exact ⟨_, _, _, rfl, h1.nm, h2.nm, by omega, by omega, k _ (Ap.node m.ok m.gc m.go m.ex c1 c2 o1 o2 h1 h2)⟩
theorem either_ok (D : Dn K mg "either" s_p_either) (D1 : Dn K mg "_side" s_p__side) (D2 : Dn K mg "_node" s_p__node) (m1 : mg "isinstance" = none) (m2 : mg "tuple" = none) (m3 : mg "min" = none) : ∀ n, C8.Cal P w K mg base (n + 2) "either" (sp3 K (S_ap or n)) []
  | 0 => cal_p_either D (z_p_either D) (Nat.zero_le _) (side_ok D1 m1 m2) (Nat.le_refl _) (node_okC D2) (Nat.le_refl _) m3 len_ap fun us μ Q ⟨c, o, e, c1, o1, c2, o2, hn, h60, q⟩ => by
    subst e
    cases c with
    | nd s a b => exfalso; simp only [T.h] at hn; omega
    | lit b =>
      cases o with
      | nd s a b => exfalso; simp only [T.h] at hn; omega
      | lit b' =>
        simp [wSeq, wIfS, wRet, wRetN, wNext, wDrop, wAsg, wAug, wBreak, wCont, wV, wC, wB, L3.wTru, L3.wNot, wAnd, wOr, wAndV, wOrV, wNotV, L3.wIf, wNeg, wOp, wCall, wQ, wML, wNil, wCons, wTup, wLst, wLstM, wIsi, wSl, wPart, wNoPart, wMinD, wJoin, wFrz, gN, sIx, sIs, sIsN, sI, sI0, truU, tyOk, tyU, isTruth, L3.isNon, itemsU, listU, ixU, qInt, qAbs, qStr, L3.max_int, start3, L3.kk_nb, L3.kk_nt, L3.kk_ni, L3.kk_ns, L3.kk_nl, L3.kk_bb, L3.kk_bt, L3.kk_bi, L3.kk_bs, L3.kk_bl, L3.kk_ib, L3.kk_it, L3.kk_ii, L3.kk_is, L3.kk_il, L3.kk_sb, L3.kk_st, L3.kk_si, L3.kk_ss, L3.kk_sl, L3.kk_tb, L3.kk_tt, L3.kk_ti, L3.kk_ts, L3.kk_tl, L3.kk_lb, L3.kk_lt, L3.kk_li, L3.kk_ls, L3.kk_ll, L3.at_0, L3.at_1, L3.at_2, L3.at_3, L3.eqA_int, L3.eqA_str, L3.eqA_bl, L3.lt_int, L3.gt_int, L3.le_int, L3.ge_int, L3.lt_str, L3.gt_str, L3.le_str, L3.ge_str, L3.add_int, L3.add_str, L3.exd, L3.exd0, L3.exd1, L3.exd2, L3.exd3, L3.exd4, L3.min_int, L3.min_str, L3.len_str, L3.len_lst, L3.len_tup, W_p_either, T.d]
        have q := q (.lit (b || b')) (ap_lit fun _ => rfl)
        cases b <;> cases b' <;> simp <;> exact rtE q
  | n + 1 => cal_p_either D (either_ok D D1 D2 m1 m2 m3 n) (Nat.le_refl _) (side_ok D1 m1 m2) (by omega) (node_okC D2) (by omega) m3 len_ap fun us μ Q ⟨c, o, e, c1, o1, c2, o2, hn, h60, q⟩ => by
    subst e
    cases c with
    | lit b =>
      cases b with
      | true =>
        simp [wSeq, wIfS, wRet, wRetN, wNext, wDrop, wAsg, wAug, wBreak, wCont, wV, wC, wB, L3.wTru, L3.wNot, wAnd, wOr, wAndV, wOrV, wNotV, L3.wIf, wNeg, wOp, wCall, wQ, wML, wNil, wCons, wTup, wLst, wLstM, wIsi, wSl, wPart, wNoPart, wMinD, wJoin, wFrz, gN, sIx, sIs, sIsN, sI, sI0, truU, tyOk, tyU, isTruth, L3.isNon, itemsU, listU, ixU, qInt, qAbs, qStr, L3.max_int, start3, L3.kk_nb, L3.kk_nt, L3.kk_ni, L3.kk_ns, L3.kk_nl, L3.kk_bb, L3.kk_bt, L3.kk_bi, L3.kk_bs, L3.kk_bl, L3.kk_ib, L3.kk_it, L3.kk_ii, L3.kk_is, L3.kk_il, L3.kk_sb, L3.kk_st, L3.kk_si, L3.kk_ss, L3.kk_sl, L3.kk_tb, L3.kk_tt, L3.kk_ti, L3.kk_ts, L3.kk_tl, L3.kk_lb, L3.kk_lt, L3.kk_li, L3.kk_ls, L3.kk_ll, L3.at_0, L3.at_1, L3.at_2, L3.at_3, L3.eqA_int, L3.eqA_str, L3.eqA_bl, L3.lt_int, L3.gt_int, L3.le_int, L3.ge_int, L3.lt_str, L3.gt_str, L3.le_str, L3.ge_str, L3.add_int, L3.add_str, L3.exd, L3.exd0, L3.exd1, L3.exd2, L3.exd3, L3.exd4, L3.min_int, L3.min_str, L3.len_str, L3.len_lst, L3.len_tup, W_p_either, T.d]
        exact rtE (q (.lit true) (ap_lit fun _ => rfl))
      | false =>
        have q := q o (ap_two o1 o2 fun _ => rfl)
        cases o with
        | lit b' =>
          simp [wSeq, wIfS, wRet, wRetN, wNext, wDrop, wAsg, wAug, wBreak, wCont, wV, wC, wB, L3.wTru, L3.wNot, wAnd, wOr, wAndV, wOrV, wNotV, L3.wIf, wNeg, wOp, wCall, wQ, wML, wNil, wCons, wTup, wLst, wLstM, wIsi, wSl, wPart, wNoPart, wMinD, wJoin, wFrz, gN, sIx, sIs, sIsN, sI, sI0, truU, tyOk, tyU, isTruth, L3.isNon, itemsU, listU, ixU, qInt, qAbs, qStr, L3.max_int, start3, L3.kk_nb, L3.kk_nt, L3.kk_ni, L3.kk_ns, L3.kk_nl, L3.kk_bb, L3.kk_bt, L3.kk_bi, L3.kk_bs, L3.kk_bl, L3.kk_ib, L3.kk_it, L3.kk_ii, L3.kk_is, L3.kk_il, L3.kk_sb, L3.kk_st, L3.kk_si, L3.kk_ss, L3.kk_sl, L3.kk_tb, L3.kk_tt, L3.kk_ti, L3.kk_ts, L3.kk_tl, L3.kk_lb, L3.kk_lt, L3.kk_li, L3.kk_ls, L3.kk_ll, L3.at_0, L3.at_1, L3.at_2, L3.at_3, L3.eqA_int, L3.eqA_str, L3.eqA_bl, L3.lt_int, L3.gt_int, L3.le_int, L3.ge_int, L3.lt_str, L3.gt_str, L3.le_str, L3.ge_str, L3.add_int, L3.add_str, L3.exd, L3.exd0, L3.exd1, L3.exd2, L3.exd3, L3.exd4, L3.min_int, L3.min_str, L3.len_str, L3.len_lst, L3.len_tup, W_p_either, T.d]
          cases b' <;> simp <;> exact rtE q
        | nd y p r =>
          simp [wSeq, wIfS, wRet, wRetN, wNext, wDrop, wAsg, wAug, wBreak, wCont, wV, wC, wB, L3.wTru, L3.wNot, wAnd, wOr, wAndV, wOrV, wNotV, L3.wIf, wNeg, wOp, wCall, wQ, wML, wNil, wCons, wTup, wLst, wLstM, wIsi, wSl, wPart, wNoPart, wMinD, wJoin, wFrz, gN, sIx, sIs, sIsN, sI, sI0, truU, tyOk, tyU, isTruth, L3.isNon, itemsU, listU, ixU, qInt, qAbs, qStr, L3.max_int, start3, L3.kk_nb, L3.kk_nt, L3.kk_ni, L3.kk_ns, L3.kk_nl, L3.kk_bb, L3.kk_bt, L3.kk_bi, L3.kk_bs, L3.kk_bl, L3.kk_ib, L3.kk_it, L3.kk_ii, L3.kk_is, L3.kk_il, L3.kk_sb, L3.kk_st, L3.kk_si, L3.kk_ss, L3.kk_sl, L3.kk_tb, L3.kk_tt, L3.kk_ti, L3.kk_ts, L3.kk_tl, L3.kk_lb, L3.kk_lt, L3.kk_li, L3.kk_ls, L3.kk_ll, L3.at_0, L3.at_1, L3.at_2, L3.at_3, L3.eqA_int, L3.eqA_str, L3.eqA_bl, L3.lt_int, L3.gt_int, L3.le_int, L3.ge_int, L3.lt_str, L3.gt_str, L3.le_str, L3.ge_str, L3.add_int, L3.add_str, L3.exd, L3.exd0, L3.exd1, L3.exd2, L3.exd3, L3.exd4, L3.min_int, L3.min_str, L3.len_str, L3.len_lst, L3.len_tup, W_p_either, T.d]
          exact rtE q
    | nd x a b =>
      cases o with
      | lit b' =>
        cases b' with
        | true =>
          simp [wSeq, wIfS, wRet, wRetN, wNext, wDrop, wAsg, wAug, wBreak, wCont, wV, wC, wB, L3.wTru, L3.wNot, wAnd, wOr, wAndV, wOrV, wNotV, L3.wIf, wNeg, wOp, wCall, wQ, wML, wNil, wCons, wTup, wLst, wLstM, wIsi, wSl, wPart, wNoPart, wMinD, wJoin, wFrz, gN, sIx, sIs, sIsN, sI, sI0, truU, tyOk, tyU, isTruth, L3.isNon, itemsU, listU, ixU, qInt, qAbs, qStr, L3.max_int, start3, L3.kk_nb, L3.kk_nt, L3.kk_ni, L3.kk_ns, L3.kk_nl, L3.kk_bb, L3.kk_bt, L3.kk_bi, L3.kk_bs, L3.kk_bl, L3.kk_ib, L3.kk_it, L3.kk_ii, L3.kk_is, L3.kk_il, L3.kk_sb, L3.kk_st, L3.kk_si, L3.kk_ss, L3.kk_sl, L3.kk_tb, L3.kk_tt, L3.kk_ti, L3.kk_ts, L3.kk_tl, L3.kk_lb, L3.kk_lt, L3.kk_li, L3.kk_ls, L3.kk_ll, L3.at_0, L3.at_1, L3.at_2, L3.at_3, L3.eqA_int, L3.eqA_str, L3.eqA_bl, L3.lt_int, L3.gt_int, L3.le_int, L3.ge_int, L3.lt_str, L3.gt_str, L3.le_str, L3.ge_str, L3.add_int, L3.add_str, L3.exd, L3.exd0, L3.exd1, L3.exd2, L3.exd3, L3.exd4, L3.min_int, L3.min_str, L3.len_str, L3.len_lst, L3.len_tup, W_p_either, T.d]
          exact rtE (q (.lit true) (ap_lit fun σ => (Bool.or_true _).symm))
        | false =>
          simp [wSeq, wIfS, wRet, wRetN, wNext, wDrop, wAsg, wAug, wBreak, wCont, wV, wC, wB, L3.wTru, L3.wNot, wAnd, wOr, wAndV, wOrV, wNotV, L3.wIf, wNeg, wOp, wCall, wQ, wML, wNil, wCons, wTup, wLst, wLstM, wIsi, wSl, wPart, wNoPart, wMinD, wJoin, wFrz, gN, sIx, sIs, sIsN, sI, sI0, truU, tyOk, tyU, isTruth, L3.isNon, itemsU, listU, ixU, qInt, qAbs, qStr, L3.max_int, start3, L3.kk_nb, L3.kk_nt, L3.kk_ni, L3.kk_ns, L3.kk_nl, L3.kk_bb, L3.kk_bt, L3.kk_bi, L3.kk_bs, L3.kk_bl, L3.kk_ib, L3.kk_it, L3.kk_ii, L3.kk_is, L3.kk_il, L3.kk_sb, L3.kk_st, L3.kk_si, L3.kk_ss, L3.kk_sl, L3.kk_tb, L3.kk_tt, L3.kk_ti, L3.kk_ts, L3.kk_tl, L3.kk_lb, L3.kk_lt, L3.kk_li, L3.kk_ls, L3.kk_ll, L3.at_0, L3.at_1, L3.at_2, L3.at_3, L3.eqA_int, L3.eqA_str, L3.eqA_bl, L3.lt_int, L3.gt_int, L3.le_int, L3.ge_int, L3.lt_str, L3.gt_str, L3.le_str, L3.ge_str, L3.add_int, L3.add_str, L3.exd, L3.exd0, L3.exd1, L3.exd2, L3.exd3, L3.exd4, L3.min_int, L3.min_str, L3.len_str, L3.len_lst, L3.len_tup, W_p_either, T.d]
          exact rtE (q (.nd x a b) (ap_one c1 c2 fun σ => (Bool.or_false _).symm))
      | nd y p r =>
        simp [wSeq, wIfS, wRet, wRetN, wNext, wDrop, wAsg, wAug, wBreak, wCont, wV, wC, wB, L3.wTru, L3.wNot, wAnd, wOr, wAndV, wOrV, wNotV, L3.wIf, wNeg, wOp, wCall, wQ, wML, wNil, wCons, wTup, wLst, wLstM, wIsi, wSl, wPart, wNoPart, wMinD, wJoin, wFrz, gN, sIx, sIs, sIsN, sI, sI0, truU, tyOk, tyU, isTruth, L3.isNon, itemsU, listU, ixU, qInt, qAbs, qStr, L3.max_int, start3, L3.kk_nb, L3.kk_nt, L3.kk_ni, L3.kk_ns, L3.kk_nl, L3.kk_bb, L3.kk_bt, L3.kk_bi, L3.kk_bs, L3.kk_bl, L3.kk_ib, L3.kk_it, L3.kk_ii, L3.kk_is, L3.kk_il, L3.kk_sb, L3.kk_st, L3.kk_si, L3.kk_ss, L3.kk_sl, L3.kk_tb, L3.kk_tt, L3.kk_ti, L3.kk_ts, L3.kk_tl, L3.kk_lb, L3.kk_lt, L3.kk_li, L3.kk_ls, L3.kk_ll, L3.at_0, L3.at_1, L3.at_2, L3.at_3, L3.eqA_int, L3.eqA_str, L3.eqA_bl, L3.lt_int, L3.gt_int, L3.le_int, L3.ge_int, L3.lt_str, L3.gt_str, L3.le_str, L3.ge_str, L3.add_int, L3.add_str, L3.exd, L3.exd0, L3.exd1, L3.exd2, L3.exd3, L3.exd4, L3.min_int, L3.min_str, L3.len_str, L3.len_lst, L3.len_tup, W_p_either, T.d]
        exact ap_step c1 c2 o1 o2 hn h60 fun r h => rtE (q r h)
def ns : T → List Str
  | .lit _ => []
  | .nd s a b => s :: (ns a ++ ns b)
def sz : T → Nat
  | .lit _ => 0
  | .nd _ a b => sz a + sz b + 1
theorem ev_ns : ∀ {c : T} {s : Str} {σ : Str → Bool} {v : Bool}, s ∉ ns c → c.ev (Cn.set σ s v) = c.ev σ
  | .lit _, _, _, _, _ => rfl
  | .nd z a b, s, σ, v, h => by
    have h : s ≠ z ∧ s ∉ ns a ∧ s ∉ ns b := by simpa [ns, not_or] using h
    show (if Cn.set σ s v z = true then a.ev (Cn.set σ s v) else b.ev (Cn.set σ s v)) = if σ z = true then a.ev σ else b.ev σ
    rw [set_ne h.1.symm, ev_ns h.2.1, ev_ns h.2.2]
def S_sw : WF := fun us μ Q => ∃ c : T, us = [.d c.d] ∧ sz c < 60 ∧ ∀ ys : List Str, sortedS ys = true → ys.Nodup → (∀ z, z ∈ ys ↔ z ∈ ns c) → Q (.d (.tuple (ys.map .str))) μ
theorem put_comm {m : Mu} {a b : Addr} {x y : MO} (h : a ≠ b) : put (put m a x) b y = put (put m b y) a x := by
  funext z
  unfold put
  by_cases h1 : z = b
  · rw [if_pos h1, if_neg (fun e => h (e.symm.trans h1)), if_pos h1]
  · rw [if_neg h1, if_neg h1]
def kS (ks : List Str) : List (Key × U) := ks.map fun k => (Sum.inr k, U.d (.bool true))
theorem kS_put {ks : List Str} {z : Str} : ∃ ks', putU (kS ks) (.inr z) (.d (.bool true)) = kS ks' ∧ ks'.length ≤ ks.length + 1 ∧ (ks.Nodup → ks'.Nodup) ∧ ∀ y, y ∈ ks' ↔ y ∈ ks ∨ y = z := by
  by_cases h : z ∈ ks
  · refine ⟨ks, ?_, by omega, fun h => h, fun y => ⟨.inl, fun k => k.elim id fun e => e ▸ h⟩⟩
    unfold putU
    have e : ((kS ks).any fun kv => decide (kv.1 = Sum.inr z)) = true := by
      rw [List.any_eq_true]
      exact ⟨(Sum.inr z, .d (.bool true)), List.mem_map.mpr ⟨z, h, rfl⟩, decide_eq_true rfl⟩
    rw [if_pos e]
    unfold kS
    rw [List.map_map]
    refine List.map_congr_left fun k _ => ?_
    show (if (Sum.inr k : Key) = Sum.inr z then _ else _) = _
    split <;> rfl
  · refine ⟨ks ++ [z], ?_, by simp, fun k => ?_, fun y => by simp⟩
    · unfold putU
      have e : ¬ ((kS ks).any fun kv => decide (kv.1 = Sum.inr z)) = true := by
        rw [List.any_eq_true]
        rintro ⟨kv, h1, h2⟩
        obtain ⟨k, h3, rfl⟩ := List.mem_map.mp h1
        have h2 : (Sum.inr k : Key) = Sum.inr z := of_decide_eq_true h2
        cases h2
        exact h h3
      rw [if_neg e]
      unfold kS
      rw [List.map_append]
      rfl
    · rw [List.nodup_append]
      refine ⟨k, by simp, fun a ha b hb => ?_⟩
      simp at hb
      subst hb
      intro e
      subst e
      exact h ha
def ws (l : List T) : Nat := (l.map fun t => 2 * sz t + 1).sum
def zs (l : List T) : Nat := (l.map sz).sum
theorem len_ws : ∀ l : List T, l.length ≤ ws l
  | [] => Nat.le_refl _
  | t :: l => by
    have := len_ws l
    simp [ws] at this ⊢
    omega
theorem switches_ok (D : Dn K mg "switches_of" s_p_switches_of) (m1 : mg "isinstance" = none) (m2 : mg "tuple" = none) (m3 : mg "sorted" = none) : C8.Cal P w K mg base 1 "switches_of" (sp3 K S_sw) [] :=
  cal_p_switches_of D m1 m2 m3 (fun us μ Q ⟨_, e, _⟩ => by rw [e]; rfl) fun us μ Q ⟨c, e, hc, q⟩ => by
    subst e
    simp [wSeq, wIfS, wRet, wRetN, wNext, wDrop, wAsg, wAug, wBreak, wCont, wV, wC, wB, L3.wTru, L3.wNot, wAnd, wOr, wAndV, wOrV, wNotV, L3.wIf, wNeg, wOp, wCall, wQ, wML, wNil, wCons, wTup, wLst, wLstM, wIsi, wSl, wPart, wNoPart, wMinD, wJoin, wFrz, gN, sIx, sIs, sIsN, sI, sI0, truU, tyOk, tyU, isTruth, L3.isNon, itemsU, listU, ixU, qInt, qAbs, qStr, L3.max_int, start3, L3.kk_nb, L3.kk_nt, L3.kk_ni, L3.kk_ns, L3.kk_nl, L3.kk_bb, L3.kk_bt, L3.kk_bi, L3.kk_bs, L3.kk_bl, L3.kk_ib, L3.kk_it, L3.kk_ii, L3.kk_is, L3.kk_il, L3.kk_sb, L3.kk_st, L3.kk_si, L3.kk_ss, L3.kk_sl, L3.kk_tb, L3.kk_tt, L3.kk_ti, L3.kk_ts, L3.kk_tl, L3.kk_lb, L3.kk_lt, L3.kk_li, L3.kk_ls, L3.kk_ll, L3.at_0, L3.at_1, L3.at_2, L3.at_3, L3.eqA_int, L3.eqA_str, L3.eqA_bl, L3.lt_int, L3.gt_int, L3.le_int, L3.ge_int, L3.lt_str, L3.gt_str, L3.le_str, L3.ge_str, L3.add_int, L3.add_str, L3.exd, L3.exd0, L3.exd1, L3.exd2, L3.exd3, L3.exd4, L3.min_int, L3.min_str, L3.len_str, L3.len_lst, L3.len_tup, W_p_switches_of, wWhile, wDictN]
    intro f hf
    refine ⟨by decide, fun g hg => ?_⟩
    have ne : f ≠ g := fun e => by
      subst e
      rw [put_same] at hg
      cases hg
    rw [put_ne ne.symm] at hg
    refine ⟨fun m ρ μ' => ∃ (ks : List Str) (wl : List T) (x : Option U), ρ = [some (.d c.d), some (.r f), some (.r g), x] ∧ μ' = put (put μ f (.dct (kS ks))) g (.lst (wl.map fun t => .d t.d)) ∧ ks.Nodup ∧ (∀ z, z ∈ ns c ↔ z ∈ ks ∨ ∃ t ∈ wl, z ∈ ns t) ∧ ks.length + zs wl ≤ sz c ∧ ws wl ≤ 2 * sz c + 1 ∧ ws wl = m,
      ⟨_, [], [c], none, rfl, rfl, List.nodup_nil, fun z => by simp, by simp [zs], by simp [ws], rfl⟩, fun m ρ μ' ⟨ks, wl, x, e1, e2, h1, h2, h3, h5, h4⟩ => ?_⟩
    subst e1 e2
    rcases List.eq_nil_or_concat wl with e | ⟨l, t, e⟩
    · subst e
      simp [wSeq, wIfS, wRet, wRetN, wNext, wDrop, wAsg, wAug, wBreak, wCont, wV, wC, wB, L3.wTru, L3.wNot, wAnd, wOr, wAndV, wOrV, wNotV, L3.wIf, wNeg, wOp, wCall, wQ, wML, wNil, wCons, wTup, wLst, wLstM, wIsi, wSl, wPart, wNoPart, wMinD, wJoin, wFrz, gN, sIx, sIs, sIsN, sI, sI0, truU, tyOk, tyU, isTruth, L3.isNon, itemsU, listU, ixU, qInt, qAbs, qStr, L3.max_int, start3, L3.kk_nb, L3.kk_nt, L3.kk_ni, L3.kk_ns, L3.kk_nl, L3.kk_bb, L3.kk_bt, L3.kk_bi, L3.kk_bs, L3.kk_bl, L3.kk_ib, L3.kk_it, L3.kk_ii, L3.kk_is, L3.kk_il, L3.kk_sb, L3.kk_st, L3.kk_si, L3.kk_ss, L3.kk_sl, L3.kk_tb, L3.kk_tt, L3.kk_ti, L3.kk_ts, L3.kk_tl, L3.kk_lb, L3.kk_lt, L3.kk_li, L3.kk_ls, L3.kk_ll, L3.at_0, L3.at_1, L3.at_2, L3.at_3, L3.eqA_int, L3.eqA_str, L3.eqA_bl, L3.lt_int, L3.gt_int, L3.le_int, L3.ge_int, L3.lt_str, L3.gt_str, L3.le_str, L3.ge_str, L3.add_int, L3.add_str, L3.exd, L3.exd0, L3.exd1, L3.exd2, L3.exd3, L3.exd4, L3.min_int, L3.min_str, L3.len_str, L3.len_lst, L3.len_tup, put_same]
      have e : isDct (put (put μ f (.dct (kS ks))) g (.lst [])) (U.r f) = true := by
        show (match put (put μ f (.dct (kS ks))) g (.lst []) f with
          | some (.dct _) => true
          | _ => false) = true
        rw [put_ne ne, put_same]
      unfold qSortA
      simp only [e, if_true]
      refine ⟨f, kS ks, ks, rfl, by rw [put_ne ne, put_same], ?_, ?_, fun ys p so => ?_⟩
      · unfold kS
        rw [List.map_map]
        rfl
      · have : zs [] = 0 := rfl
        omega
      · refine ⟨_, ys.map .str, rfl, rfl, rtD g (rtD f (rtE ?_))⟩
        rw [del_put (by rw [put_ne ne.symm]; exact hg), del_put hf]
        refine q ys so (p.nodup_iff.mpr h1) fun z => ?_
        rw [p.mem_iff, h2]
        simp
    · subst e
      rw [List.concat_eq_append] at *
      simp [wSeq, wIfS, wRet, wRetN, wNext, wDrop, wAsg, wAug, wBreak, wCont, wV, wC, wB, L3.wTru, L3.wNot, wAnd, wOr, wAndV, wOrV, wNotV, L3.wIf, wNeg, wOp, wCall, wQ, wML, wNil, wCons, wTup, wLst, wLstM, wIsi, wSl, wPart, wNoPart, wMinD, wJoin, wFrz, gN, sIx, sIs, sIsN, sI, sI0, truU, tyOk, tyU, isTruth, L3.isNon, itemsU, listU, ixU, qInt, qAbs, qStr, L3.max_int, start3, L3.kk_nb, L3.kk_nt, L3.kk_ni, L3.kk_ns, L3.kk_nl, L3.kk_bb, L3.kk_bt, L3.kk_bi, L3.kk_bs, L3.kk_bl, L3.kk_ib, L3.kk_it, L3.kk_ii, L3.kk_is, L3.kk_il, L3.kk_sb, L3.kk_st, L3.kk_si, L3.kk_ss, L3.kk_sl, L3.kk_tb, L3.kk_tt, L3.kk_ti, L3.kk_ts, L3.kk_tl, L3.kk_lb, L3.kk_lt, L3.kk_li, L3.kk_ls, L3.kk_ll, L3.at_0, L3.at_1, L3.at_2, L3.at_3, L3.eqA_int, L3.eqA_str, L3.eqA_bl, L3.lt_int, L3.gt_int, L3.le_int, L3.ge_int, L3.lt_str, L3.gt_str, L3.le_str, L3.ge_str, L3.add_int, L3.add_str, L3.exd, L3.exd0, L3.exd1, L3.exd2, L3.exd3, L3.exd4, L3.min_int, L3.min_str, L3.len_str, L3.len_lst, L3.len_tup, put_same]
      refine ⟨⟨_, by unfold listU; simp only [put_same]; rfl⟩, g, _, .d t.d, rfl, rfl, put_same, ?_, ?_⟩
      · simp
      · rw [put_put, List.dropLast_concat]
        have z1 : zs (l ++ [t]) = zs l + sz t := by simp [zs]
        have z2 : ws (l ++ [t]) = ws l + (2 * sz t + 1) := by simp [ws]
        rw [z1] at h3
        rw [z2] at h4 h5
        cases t with
        | lit b =>
          simp [wSeq, wIfS, wRet, wRetN, wNext, wDrop, wAsg, wAug, wBreak, wCont, wV, wC, wB, L3.wTru, L3.wNot, wAnd, wOr, wAndV, wOrV, wNotV, L3.wIf, wNeg, wOp, wCall, wQ, wML, wNil, wCons, wTup, wLst, wLstM, wIsi, wSl, wPart, wNoPart, wMinD, wJoin, wFrz, gN, sIx, sIs, sIsN, sI, sI0, truU, tyOk, tyU, isTruth, L3.isNon, itemsU, listU, ixU, qInt, qAbs, qStr, L3.max_int, start3, L3.kk_nb, L3.kk_nt, L3.kk_ni, L3.kk_ns, L3.kk_nl, L3.kk_bb, L3.kk_bt, L3.kk_bi, L3.kk_bs, L3.kk_bl, L3.kk_ib, L3.kk_it, L3.kk_ii, L3.kk_is, L3.kk_il, L3.kk_sb, L3.kk_st, L3.kk_si, L3.kk_ss, L3.kk_sl, L3.kk_tb, L3.kk_tt, L3.kk_ti, L3.kk_ts, L3.kk_tl, L3.kk_lb, L3.kk_lt, L3.kk_li, L3.kk_ls, L3.kk_ll, L3.at_0, L3.at_1, L3.at_2, L3.at_3, L3.eqA_int, L3.eqA_str, L3.eqA_bl, L3.lt_int, L3.gt_int, L3.le_int, L3.ge_int, L3.lt_str, L3.gt_str, L3.le_str, L3.ge_str, L3.add_int, L3.add_str, L3.exd, L3.exd0, L3.exd1, L3.exd2, L3.exd3, L3.exd4, L3.min_int, L3.min_str, L3.len_str, L3.len_lst, L3.len_tup, T.d]
          refine ⟨ws l, by omega, ks, l, rfl, h1, fun z => ?_, by omega, by omega, rfl⟩
          rw [h2]
          simp [ns]
        | nd s a b =>
          have z3 : sz (T.nd s a b) = sz a + sz b + 1 := rfl
          rw [z3] at h3 h4 h5
          simp [wSeq, wIfS, wRet, wRetN, wNext, wDrop, wAsg, wAug, wBreak, wCont, wV, wC, wB, L3.wTru, L3.wNot, wAnd, wOr, wAndV, wOrV, wNotV, L3.wIf, wNeg, wOp, wCall, wQ, wML, wNil, wCons, wTup, wLst, wLstM, wIsi, wSl, wPart, wNoPart, wMinD, wJoin, wFrz, gN, sIx, sIs, sIsN, sI, sI0, truU, tyOk, tyU, isTruth, L3.isNon, itemsU, listU, ixU, qInt, qAbs, qStr, L3.max_int, start3, L3.kk_nb, L3.kk_nt, L3.kk_ni, L3.kk_ns, L3.kk_nl, L3.kk_bb, L3.kk_bt, L3.kk_bi, L3.kk_bs, L3.kk_bl, L3.kk_ib, L3.kk_it, L3.kk_ii, L3.kk_is, L3.kk_il, L3.kk_sb, L3.kk_st, L3.kk_si, L3.kk_ss, L3.kk_sl, L3.kk_tb, L3.kk_tt, L3.kk_ti, L3.kk_ts, L3.kk_tl, L3.kk_lb, L3.kk_lt, L3.kk_li, L3.kk_ls, L3.kk_ll, L3.at_0, L3.at_1, L3.at_2, L3.at_3, L3.eqA_int, L3.eqA_str, L3.eqA_bl, L3.lt_int, L3.gt_int, L3.le_int, L3.ge_int, L3.lt_str, L3.gt_str, L3.le_str, L3.ge_str, L3.add_int, L3.add_str, L3.exd, L3.exd0, L3.exd1, L3.exd2, L3.exd3, L3.exd4, L3.min_int, L3.min_str, L3.len_str, L3.len_lst, L3.len_tup, T.d, wDPut]
          obtain ⟨ks', k1, k2, k3, k4⟩ := kS_put (ks := ks) (z := s)
          refine ⟨kS ks, .inr s, rfl, by rw [put_ne ne, put_same], ?_, ?_⟩
          · have : (kS ks).length = ks.length := List.length_map _
            have : 64 ≤ sizeLine := by decide
            omega
          · rw [put_comm ne.symm, put_put, k1]
            refine ⟨⟨_, by unfold listU; simp only [put_same]; rfl⟩, ?_⟩
            show mExtend _ [.d (.tuple [a.d, b.d])] _ _
            refine ⟨g, _, [a.d, b.d], rfl, rfl, put_same, ?_, ?_⟩
            · have : 200 ≤ sizeLine := by decide
              have := len_ws l
              simp
              omega
            · rw [put_put]
              refine ⟨ws (l ++ [a, b]), ?_, ks', l ++ [a, b], by rw [List.map_append]; rfl, k3 h1, fun z => ?_, ?_, ?_, rfl⟩
              · simp [ws] at h4 ⊢
                omega
              · rw [h2, k4]
                simp only [ns, List.mem_append, List.mem_cons, List.not_mem_nil, or_false]
                constructor
                · rintro (h | ⟨t, h | h, k⟩)
                  · exact .inl (.inl h)
                  · exact .inr ⟨t, .inl h, k⟩
                  · subst h
                    have k : z = s ∨ z ∈ ns a ∨ z ∈ ns b := by simpa [ns] using k
                    rcases k with k | k | k
                    · exact .inl (.inr k)
                    · exact .inr ⟨a, .inr (.inl rfl), k⟩
                    · exact .inr ⟨b, .inr (.inr rfl), k⟩
                · rintro ((h | h) | ⟨t, h | h | h, k⟩)
                  · exact .inl h
                  · exact .inr ⟨_, .inr rfl, by simp [ns, h]⟩
                  · exact .inr ⟨t, .inl h, k⟩
                  · exact .inr ⟨_, .inr rfl, by simp [ns, ← h, k]⟩
                  · exact .inr ⟨_, .inr rfl, by simp [ns, ← h, k]⟩
              · simp [zs] at h3 ⊢
                omega
              · simp [ws] at h5 ⊢
                omega
def S_st : WF := fun us μ Q => ∃ a b : Int, us = [.d (.int a), .d (.int b)] ∧ 0 ≤ a ∧ a < 2147483647 ∧ 0 ≤ b ∧ b ≤ 64 ∧ ∀ z : Int, Q (.d (.int z)) μ
theorem ex_int {p : Int → Prop} {i : Int} : (∃ x, i = x ∧ p x) ↔ p i := ⟨fun ⟨_, e, h⟩ => e ▸ h, fun h => ⟨i, rfl, h⟩⟩
theorem stirred_ok (D : Dn K mg "_law_stirred" s_l_stirred) (m1 : mg "int" = none) : C8.Cal P w K mg base 1 "_law_stirred" (sp3 K S_st) [] :=
  cal_l_stirred D m1 (fun us μ Q ⟨_, _, e, _⟩ => by rw [e]; rfl) fun us μ Q ⟨a, b, e, h1, h2, h3, h4, q⟩ => by
    subst e
    simp [wSeq, wIfS, wRet, wRetN, wNext, wDrop, wAsg, wAug, wBreak, wCont, wV, wC, wB, L3.wTru, L3.wNot, wAnd, wOr, wAndV, wOrV, wNotV, L3.wIf, wNeg, wOp, wCall, wQ, wML, wNil, wCons, wTup, wLst, wLstM, wIsi, wSl, wPart, wNoPart, wMinD, wJoin, wFrz, gN, sIx, sIs, sIsN, sI, sI0, truU, tyOk, tyU, isTruth, L3.isNon, itemsU, listU, ixU, qInt, qAbs, qStr, L3.max_int, start3, L3.kk_nb, L3.kk_nt, L3.kk_ni, L3.kk_ns, L3.kk_nl, L3.kk_bb, L3.kk_bt, L3.kk_bi, L3.kk_bs, L3.kk_bl, L3.kk_ib, L3.kk_it, L3.kk_ii, L3.kk_is, L3.kk_il, L3.kk_sb, L3.kk_st, L3.kk_si, L3.kk_ss, L3.kk_sl, L3.kk_tb, L3.kk_tt, L3.kk_ti, L3.kk_ts, L3.kk_tl, L3.kk_lb, L3.kk_lt, L3.kk_li, L3.kk_ls, L3.kk_ll, L3.at_0, L3.at_1, L3.at_2, L3.at_3, L3.eqA_int, L3.eqA_str, L3.eqA_bl, L3.lt_int, L3.gt_int, L3.le_int, L3.ge_int, L3.lt_str, L3.gt_str, L3.le_str, L3.ge_str, L3.add_int, L3.add_str, L3.exd, L3.exd0, L3.exd1, L3.exd2, L3.exd3, L3.exd4, L3.min_int, L3.min_str, L3.len_str, L3.len_lst, L3.len_tup, W_l_stirred, CMul, CDivN]
    have k1 : 0 ≤ (a * 48017 + b * 8821 + 70001) % 2147483423 := Int.emod_nonneg _ (by decide)
    have k2 : (a * 48017 + b * 8821 + 70001) % 2147483423 < 2147483423 := Int.emod_lt_of_pos _ (by decide)
    and_intros
    all_goals first | exact rtE (q _) | omega
def S_take : WF := fun us μ Q => ∃ (h : Addr) (m : Int), us = [.r h, .d (.int m)] ∧ μ h = some .hand ∧ 1 ≤ m ∧ m < 1000000 ∧ ∀ z : Int, 0 ≤ z → z < m → Q (.d (.int z)) μ
theorem take_ok (D : Dn K mg "_law_take" s_l_take) (D1 : Dn K mg "_law_stirred" s_l_stirred) (m1 : mg "int" = none) (m2 : mg "len" = none) : C8.Cal P w K mg base 2 "_law_take" (sp3 K S_take) [] := by
  refine cal_l_take D (c_l_stirred := stirred_ok D1 m1) (h_l_stirred := Nat.le_refl _) (m_len := m2) (m_int := m1) (len := fun us μ Q ⟨_, _, e, _⟩ => by rw [e]; rfl) (h := fun us μ Q ⟨h, m, e, hh, h1, h2, q⟩ => ?_)
  · subst e
    have mm : ∀ z : Int, 0 ≤ z % m ∧ z % m < m := fun z => ⟨Int.emod_nonneg _ (by omega), Int.emod_lt_of_pos _ (by omega)⟩
    have fin : ∀ (z j r t : Int) (ns : List Int), ns.length ≤ 63 → (∀ x ∈ ns, 0 ≤ x) → 0 ≤ j → j ≤ 63 → 0 ≤ r → (E3 μ Q).rt (.d (.int (z % m))) (put μ h (.lst [.d (.list (ns.map .int)), .d (.int j), .d (.int r), .d (.int t)])) := fun z j r t ns l1 l2 l3 l4 l5 =>
      rtH put_same l1 l2 l3 l4 l5 (rtE (by rw [put_put, put_id hh]; exact q _ (mm z).1 (mm z).2))
    have dr : ∀ (j r t : Int) (ns : List Int), ns.length ≤ 63 → (∀ x ∈ ns, 0 ≤ x) → 0 ≤ j → j ≤ 63 → 0 ≤ r → S_st [.d (.int ((t + 1) % 2147483477)), .d (.int j)] (put μ h (.lst [.d (.list (ns.map .int)), .d (.int j), .d (.int r), .d (.int ((t + 1) % 2147483477))])) fun x μ1 => ∃ i, x = .d (.int i) ∧ (E3 μ Q).rt (.d (.int (i % m))) μ1 := fun j r t ns l1 l2 l3 l4 l5 => by
      have k1 : 0 ≤ (t + 1) % 2147483477 := Int.emod_nonneg _ (by decide)
      have k2 : (t + 1) % 2147483477 < 2147483477 := Int.emod_lt_of_pos _ (by decide)
      exact ⟨_, _, rfl, k1, by omega, l3, by omega, fun z => ⟨z, rfl, fin z j r _ ns l1 l2 l3 l4 l5⟩⟩
    have i1 : ixN 4 1 = some 1 := rfl
    have i2 : ixN 4 2 = some 2 := rfl
    have i3 : ixN 4 3 = some 3 := rfl
    have m0 : ¬ m = 0 := by omega
    have m3 : m.natAbs < 1073741824 := by omega
    have m4 : 0 < m := by omega
    refine ⟨h, rfl, hh, fun ns j r t l1 l2 l3 l4 l5 => ?_⟩
    have fd : 0 ≤ r.fdiv m := by rw [Int.fdiv_eq_ediv_of_nonneg _ (by omega)]; exact Int.ediv_nonneg l5 (by omega)
    by_cases hr : r = 0
    · subst hr
      by_cases hj : j < ns.length
      · obtain ⟨n, rfl⟩ := Int.eq_ofNat_of_zero_le l3
        have hn : n < ns.length := by omega
        have hx : atI (List.map (U.d ∘ PyData.int) ns) (n : Int) = some (.d (.int ns[n])) := by
          rw [L3.at_n (by rw [List.length_map]; exact hn), List.getElem_map]
          rfl
        have x0 := l2 _ (List.getElem_mem hn)
        generalize ns[n] = x at hx x0
        by_cases hc : x < 1000000000000000000
        · simp [wSeq, wIfS, wRet, wRetN, wNext, wDrop, wAsg, wAug, wBreak, wCont, wV, wC, wB, L3.wTru, L3.wNot, wAnd, wOr, wAndV, wOrV, wNotV, L3.wIf, wNeg, wOp, wCall, wQ, wML, wNil, wCons, wTup, wLst, wLstM, wIsi, wSl, wPart, wNoPart, wMinD, wJoin, wFrz, gN, sIx, sIs, sIsN, sI, sI0, truU, tyOk, tyU, isTruth, L3.isNon, itemsU, listU, ixU, qInt, qAbs, qStr, L3.max_int, start3, L3.kk_nb, L3.kk_nt, L3.kk_ni, L3.kk_ns, L3.kk_nl, L3.kk_bb, L3.kk_bt, L3.kk_bi, L3.kk_bs, L3.kk_bl, L3.kk_ib, L3.kk_it, L3.kk_ii, L3.kk_is, L3.kk_il, L3.kk_sb, L3.kk_st, L3.kk_si, L3.kk_ss, L3.kk_sl, L3.kk_tb, L3.kk_tt, L3.kk_ti, L3.kk_ts, L3.kk_tl, L3.kk_lb, L3.kk_lt, L3.kk_li, L3.kk_ls, L3.kk_ll, L3.at_0, L3.at_1, L3.at_2, L3.at_3, L3.eqA_int, L3.eqA_str, L3.eqA_bl, L3.lt_int, L3.gt_int, L3.le_int, L3.ge_int, L3.lt_str, L3.gt_str, L3.le_str, L3.ge_str, L3.add_int, L3.add_str, L3.exd, L3.exd0, L3.exd1, L3.exd2, L3.exd3, L3.exd4, L3.min_int, L3.min_str, L3.len_str, L3.len_lst, L3.len_tup, W_l_take, gIx, put_same, put_put, CPow, CDivN, hx, i1, i2, i3, hj, hc, m0, m3, m4]
          have k1 : 0 ≤ x % 2147483423 := Int.emod_nonneg _ (by decide)
          have k2 : x % 2147483423 < 2147483423 := Int.emod_lt_of_pos _ (by decide)
          exact ⟨_, _, rfl, k1, by omega, by omega, by omega, fun z => ⟨z, rfl, fin z (n + 1) 0 t ns l1 l2 (by omega) (by omega) (by omega)⟩⟩
        · have hx0 : 0 < x := by omega
          have fx : 0 ≤ x.fdiv m := by rw [Int.fdiv_eq_ediv_of_nonneg _ (by omega)]; exact Int.ediv_nonneg x0 (by omega)
          simp [wSeq, wIfS, wRet, wRetN, wNext, wDrop, wAsg, wAug, wBreak, wCont, wV, wC, wB, L3.wTru, L3.wNot, wAnd, wOr, wAndV, wOrV, wNotV, L3.wIf, wNeg, wOp, wCall, wQ, wML, wNil, wCons, wTup, wLst, wLstM, wIsi, wSl, wPart, wNoPart, wMinD, wJoin, wFrz, gN, sIx, sIs, sIsN, sI, sI0, truU, tyOk, tyU, isTruth, L3.isNon, itemsU, listU, ixU, qInt, qAbs, qStr, L3.max_int, start3, L3.kk_nb, L3.kk_nt, L3.kk_ni, L3.kk_ns, L3.kk_nl, L3.kk_bb, L3.kk_bt, L3.kk_bi, L3.kk_bs, L3.kk_bl, L3.kk_ib, L3.kk_it, L3.kk_ii, L3.kk_is, L3.kk_il, L3.kk_sb, L3.kk_st, L3.kk_si, L3.kk_ss, L3.kk_sl, L3.kk_tb, L3.kk_tt, L3.kk_ti, L3.kk_ts, L3.kk_tl, L3.kk_lb, L3.kk_lt, L3.kk_li, L3.kk_ls, L3.kk_ll, L3.at_0, L3.at_1, L3.at_2, L3.at_3, L3.eqA_int, L3.eqA_str, L3.eqA_bl, L3.lt_int, L3.gt_int, L3.le_int, L3.ge_int, L3.lt_str, L3.gt_str, L3.le_str, L3.ge_str, L3.add_int, L3.add_str, L3.exd, L3.exd0, L3.exd1, L3.exd2, L3.exd3, L3.exd4, L3.min_int, L3.min_str, L3.len_str, L3.len_lst, L3.len_tup, W_l_take, gIx, put_same, put_put, CPow, CDivN, hx, i1, i2, i3, hj, hc, m0, m3, m4, hx0]
          exact fin x (n + 1) _ t ns l1 l2 (by omega) (by omega) fx
      · simp [wSeq, wIfS, wRet, wRetN, wNext, wDrop, wAsg, wAug, wBreak, wCont, wV, wC, wB, L3.wTru, L3.wNot, wAnd, wOr, wAndV, wOrV, wNotV, L3.wIf, wNeg, wOp, wCall, wQ, wML, wNil, wCons, wTup, wLst, wLstM, wIsi, wSl, wPart, wNoPart, wMinD, wJoin, wFrz, gN, sIx, sIs, sIsN, sI, sI0, truU, tyOk, tyU, isTruth, L3.isNon, itemsU, listU, ixU, qInt, qAbs, qStr, L3.max_int, start3, L3.kk_nb, L3.kk_nt, L3.kk_ni, L3.kk_ns, L3.kk_nl, L3.kk_bb, L3.kk_bt, L3.kk_bi, L3.kk_bs, L3.kk_bl, L3.kk_ib, L3.kk_it, L3.kk_ii, L3.kk_is, L3.kk_il, L3.kk_sb, L3.kk_st, L3.kk_si, L3.kk_ss, L3.kk_sl, L3.kk_tb, L3.kk_tt, L3.kk_ti, L3.kk_ts, L3.kk_tl, L3.kk_lb, L3.kk_lt, L3.kk_li, L3.kk_ls, L3.kk_ll, L3.at_0, L3.at_1, L3.at_2, L3.at_3, L3.eqA_int, L3.eqA_str, L3.eqA_bl, L3.lt_int, L3.gt_int, L3.le_int, L3.ge_int, L3.lt_str, L3.gt_str, L3.le_str, L3.ge_str, L3.add_int, L3.add_str, L3.exd, L3.exd0, L3.exd1, L3.exd2, L3.exd3, L3.exd4, L3.min_int, L3.min_str, L3.len_str, L3.len_lst, L3.len_tup, W_l_take, gIx, put_same, put_put, CPow, CDivN, i1, i2, i3, hj, m0, m3, m4]
        exact dr j 0 t ns l1 l2 l3 l4 l5
    · have hr' : 0 < r := by omega
      simp [wSeq, wIfS, wRet, wRetN, wNext, wDrop, wAsg, wAug, wBreak, wCont, wV, wC, wB, L3.wTru, L3.wNot, wAnd, wOr, wAndV, wOrV, wNotV, L3.wIf, wNeg, wOp, wCall, wQ, wML, wNil, wCons, wTup, wLst, wLstM, wIsi, wSl, wPart, wNoPart, wMinD, wJoin, wFrz, gN, sIx, sIs, sIsN, sI, sI0, truU, tyOk, tyU, isTruth, L3.isNon, itemsU, listU, ixU, qInt, qAbs, qStr, L3.max_int, start3, L3.kk_nb, L3.kk_nt, L3.kk_ni, L3.kk_ns, L3.kk_nl, L3.kk_bb, L3.kk_bt, L3.kk_bi, L3.kk_bs, L3.kk_bl, L3.kk_ib, L3.kk_it, L3.kk_ii, L3.kk_is, L3.kk_il, L3.kk_sb, L3.kk_st, L3.kk_si, L3.kk_ss, L3.kk_sl, L3.kk_tb, L3.kk_tt, L3.kk_ti, L3.kk_ts, L3.kk_tl, L3.kk_lb, L3.kk_lt, L3.kk_li, L3.kk_ls, L3.kk_ll, L3.at_0, L3.at_1, L3.at_2, L3.at_3, L3.eqA_int, L3.eqA_str, L3.eqA_bl, L3.lt_int, L3.gt_int, L3.le_int, L3.ge_int, L3.lt_str, L3.gt_str, L3.le_str, L3.ge_str, L3.add_int, L3.add_str, L3.exd, L3.exd0, L3.exd1, L3.exd2, L3.exd3, L3.exd4, L3.min_int, L3.min_str, L3.len_str, L3.len_lst, L3.len_tup, W_l_take, gIx, put_same, put_put, CPow, CDivN, i1, i2, i3, hr, hr', m0, m3, m4]
      exact fin r j _ t ns l1 l2 l3 l4 fd
def sl (xs : List Str) : List PyData := xs.map .str
def il (xs : List Int) : List PyData := xs.map .int
def ab (ns : List Int) : List Int := ns.map fun x => if x < 0 then -x else x
theorem ab_take {ns : List Int} {j : Nat} (h : j < ns.length) : ab (ns.take (j + 1)) = ab (ns.take j) ++ [if ns[j] < 0 then -ns[j] else ns[j]] := by
  unfold ab
  rw [List.take_succ_eq_append_getElem h, List.map_append]
  rfl
theorem ab_nn {ns : List Int} : ∀ x ∈ ab ns, 0 ≤ x := fun x h => by
  obtain ⟨y, _, e⟩ := List.mem_map.mp h
  subst e
  split <;> omega
def S_hand : WF := fun us μ Q => ∃ ns : List Int, us = [.d (.list (il ns))] ∧ ns.length ≤ 63 ∧ ∀ p, μ p = none → Q (.r p) (put μ p .hand)
theorem hand_ok (D : Dn K mg "_law_hand" s_l_hand) (m1 : mg "int" = none) (m2 : mg "len" = none) (m3 : mg "abs" = none) : C8.Cal P w K mg base 1 "_law_hand" (sp3 K S_hand) [] :=
  cal_l_hand D (m_len := m2) (m_int := m1) (m_abs := m3) (len := fun us μ Q ⟨_, e, _⟩ => by rw [e]; rfl) (h := fun us μ Q ⟨ns, e, hn, q⟩ => by
    subst e
    have big : 1000 < sizeLine := by decide
    have ln : (il ns).length = ns.length := List.length_map _
    simp [wSeq, wIfS, wRet, wRetN, wNext, wDrop, wAsg, wAug, wBreak, wCont, wV, wC, wB, L3.wTru, L3.wNot, wAnd, wOr, wAndV, wOrV, wNotV, L3.wIf, wNeg, wOp, wCall, wQ, wML, wNil, wCons, wTup, wLst, wLstM, wIsi, wSl, wPart, wNoPart, wMinD, wJoin, wFrz, gN, sIx, sIs, sIsN, sI, sI0, truU, tyOk, tyU, isTruth, L3.isNon, itemsU, listU, ixU, qInt, qAbs, qStr, L3.max_int, start3, L3.kk_nb, L3.kk_nt, L3.kk_ni, L3.kk_ns, L3.kk_nl, L3.kk_bb, L3.kk_bt, L3.kk_bi, L3.kk_bs, L3.kk_bl, L3.kk_ib, L3.kk_it, L3.kk_ii, L3.kk_is, L3.kk_il, L3.kk_sb, L3.kk_st, L3.kk_si, L3.kk_ss, L3.kk_sl, L3.kk_tb, L3.kk_tt, L3.kk_ti, L3.kk_ts, L3.kk_tl, L3.kk_lb, L3.kk_lt, L3.kk_li, L3.kk_ls, L3.kk_ll, L3.at_0, L3.at_1, L3.at_2, L3.at_3, L3.eqA_int, L3.eqA_str, L3.eqA_bl, L3.lt_int, L3.gt_int, L3.le_int, L3.ge_int, L3.lt_str, L3.gt_str, L3.le_str, L3.ge_str, L3.add_int, L3.add_str, L3.exd, L3.exd0, L3.exd1, L3.exd2, L3.exd3, L3.exd4, L3.min_int, L3.min_str, L3.len_str, L3.len_lst, L3.len_tup, W_l_hand, wFor, jSeq, CMul, ln]
    intro p hp
    refine forGo_inv (fun j ρ μ' => ∃ (t : Int) (x : Option U), ρ = [some (.d (.list (il ns))), some (.d (.int t)), some (.r p), x] ∧ t < 2 ^ 63 ∧ -(2^63) < t ∧ μ' = put μ p (.lst ((il (ab (ns.take j))).map U.d))) ⟨_, _, rfl, by omega, by omega, rfl⟩ (fun _ _ _ _ => trivial) (fun j hj ρ μ' N ⟨t, x, h1, h2, h3, h4⟩ hN => ?_) (fun ρ μ' ⟨t, x, h1, h2, h3, h4⟩ => ?_)
    · subst h1 h4
      have hj : j < ns.length := by simpa [ln] using hj
      have hx : (List.map U.d (il ns))[j] = .d (.int ns[j]) := by simp [il]
      rw [hx]
      simp [wSeq, wIfS, wRet, wRetN, wNext, wDrop, wAsg, wAug, wBreak, wCont, wV, wC, wB, L3.wTru, L3.wNot, wAnd, wOr, wAndV, wOrV, wNotV, L3.wIf, wNeg, wOp, wCall, wQ, wML, wNil, wCons, wTup, wLst, wLstM, wIsi, wSl, wPart, wNoPart, wMinD, wJoin, wFrz, gN, sIx, sIs, sIsN, sI, sI0, truU, tyOk, tyU, isTruth, L3.isNon, itemsU, listU, ixU, qInt, qAbs, qStr, L3.max_int, start3, L3.kk_nb, L3.kk_nt, L3.kk_ni, L3.kk_ns, L3.kk_nl, L3.kk_bb, L3.kk_bt, L3.kk_bi, L3.kk_bs, L3.kk_bl, L3.kk_ib, L3.kk_it, L3.kk_ii, L3.kk_is, L3.kk_il, L3.kk_sb, L3.kk_st, L3.kk_si, L3.kk_ss, L3.kk_sl, L3.kk_tb, L3.kk_tt, L3.kk_ti, L3.kk_ts, L3.kk_tl, L3.kk_lb, L3.kk_lt, L3.kk_li, L3.kk_ls, L3.kk_ll, L3.at_0, L3.at_1, L3.at_2, L3.at_3, L3.eqA_int, L3.eqA_str, L3.eqA_bl, L3.lt_int, L3.gt_int, L3.le_int, L3.ge_int, L3.lt_str, L3.gt_str, L3.le_str, L3.ge_str, L3.add_int, L3.add_str, L3.exd, L3.exd0, L3.exd1, L3.exd2, L3.exd3, L3.exd4, L3.min_int, L3.min_str, L3.len_str, L3.len_lst, L3.len_tup, CMul]
      have l0 : (ab (ns.take j)).length = j := by
        unfold ab
        rw [List.length_map, List.length_take]
        omega
      have k1 : 0 ≤ (t * 2011 + ns[j]) % 2147483543 := Int.emod_nonneg _ (by decide)
      have k2 : (t * 2011 + ns[j]) % 2147483543 < 2147483543 := Int.emod_lt_of_pos _ (by decide)
      refine ⟨isL_r put_same, append_r put_same (by simp [il, l0]; omega) (hN _ _ ⟨_, _, rfl, by omega, by omega, ?_⟩)⟩
      rw [put_put, ab_take hj]
      simp [il]
    · subst h1 h4
      refine ⟨p, il (ab (ns.take (List.map U.d (il ns)).length)), rfl, put_same, ?_⟩
      have e : ns.take (List.map U.d (il ns)).length = ns := by
        rw [List.length_map, ln]
        exact List.take_length
      rw [del_put hp, e]
      simp [wSeq, wIfS, wRet, wRetN, wNext, wDrop, wAsg, wAug, wBreak, wCont, wV, wC, wB, L3.wTru, L3.wNot, wAnd, wOr, wAndV, wOrV, wNotV, L3.wIf, wNeg, wOp, wCall, wQ, wML, wNil, wCons, wTup, wLst, wLstM, wIsi, wSl, wPart, wNoPart, wMinD, wJoin, wFrz, gN, sIx, sIs, sIsN, sI, sI0, truU, tyOk, tyU, isTruth, L3.isNon, itemsU, listU, ixU, qInt, qAbs, qStr, L3.max_int, start3, L3.kk_nb, L3.kk_nt, L3.kk_ni, L3.kk_ns, L3.kk_nl, L3.kk_bb, L3.kk_bt, L3.kk_bi, L3.kk_bs, L3.kk_bl, L3.kk_ib, L3.kk_it, L3.kk_ii, L3.kk_is, L3.kk_il, L3.kk_sb, L3.kk_st, L3.kk_si, L3.kk_ss, L3.kk_sl, L3.kk_tb, L3.kk_tt, L3.kk_ti, L3.kk_ts, L3.kk_tl, L3.kk_lb, L3.kk_lt, L3.kk_li, L3.kk_ls, L3.kk_ll, L3.at_0, L3.at_1, L3.at_2, L3.at_3, L3.eqA_int, L3.eqA_str, L3.eqA_bl, L3.lt_int, L3.gt_int, L3.le_int, L3.ge_int, L3.lt_str, L3.gt_str, L3.le_str, L3.ge_str, L3.add_int, L3.add_str, L3.exd, L3.exd0, L3.exd1, L3.exd2, L3.exd3, L3.exd4, L3.min_int, L3.min_str, L3.len_str, L3.len_lst, L3.len_tup, frzR]
      refine ⟨by decide, fun r hr => rtH put_same (ns := ab ns) ?_ ab_nn (by omega) (by omega) (by omega) (rtE ?_)⟩
      · unfold ab
        rw [List.length_map]
        exact hn
      · rw [put_put]
        exact q r hr)
theorem fdiv_nat (a b : Nat) : (a : Int).fdiv (b : Int) = ((a / b : Nat) : Int) := by
  rw [Int.fdiv_eq_ediv_of_nonneg _ (by omega)]
  rfl
def bl (xs : List Bool) : List PyData := xs.map .bool
theorem bl_len {xs : List Bool} : (bl xs).length = xs.length := List.length_map _
theorem sl_len {xs : List Str} : (sl xs).length = xs.length := List.length_map _
theorem rng_get {n j : Nat} (h : j < ((List.range n).map fun i : Nat => U.d (.int (i : Int))).length) : ((List.range n).map fun i : Nat => U.d (.int (i : Int)))[j] = .d (.int (j : Int)) := by
  rw [List.getElem_map, List.getElem_range]
theorem rng_len {n : Nat} : ((List.range n).map fun i : Nat => U.d (.int (i : Int))).length = n := by rw [List.length_map, List.length_range]
theorem lc_bools {i : Nat} {we : L3.WX} {Al : Mu → Prop} {us : List U} {ρ : Rho} {μ : Mu} {P : List U → Mu → Prop} (hl : us.length < sizeLine) (al : Al μ)
    (step : ∀ (j : Nat) (hj : j < us.length) (N : XP), (∀ b : Bool, N (.d (.bool b)) μ) → we (ρ.set i (some us[j])) μ N)
    (fin : ∀ bs : List Bool, bs.length = us.length → P ((bl bs).map U.d) μ) : lcGo (gN i) wYes we Al us [] ρ μ P := by
  refine lcGo_inv (fun j acc μ' => ∃ bs, acc = (bl bs).map U.d ∧ bs.length = j ∧ μ' = μ) ⟨[], rfl, rfl, rfl⟩ (fun j acc μ' ⟨_, _, _, e⟩ => e ▸ al) (fun j hj acc μ' N ⟨bs, h1, h2, h3⟩ hN => ?_) (fun acc μ' ⟨bs, h1, h2, h3⟩ => ?_)
  · subst h1 h3
    simp only [gN, wYes, if_true]
    refine step j hj _ fun b => ⟨by rw [List.length_map, bl_len]; omega, hN _ _ ⟨bs ++ [b], by simp [bl], by simp [h2], rfl⟩⟩
  · subst h1 h3
    exact fin bs h2
theorem lc_map {i : Nat} {we : L3.WX} {Al : Mu → Prop} {us : List U} {ρ : Rho} {μ : Mu} {P : List U → Mu → Prop} (f : Nat → PyData) (hl : us.length < sizeLine) (al : Al μ)
    (step : ∀ (j : Nat) (hj : j < us.length) (N : XP), N (.d (f j)) μ → we (ρ.set i (some us[j])) μ N)
    (fin : P (((List.range us.length).map f).map U.d) μ) : lcGo (gN i) wYes we Al us [] ρ μ P := by
  refine lcGo_inv (fun j acc μ' => acc = ((List.range j).map f).map U.d ∧ μ' = μ) ⟨rfl, rfl⟩ (fun j acc μ' ⟨_, e⟩ => e ▸ al) (fun j hj acc μ' N ⟨h1, h3⟩ hN => ?_) (fun acc μ' ⟨h1, h3⟩ => ?_)
  · subst h1 h3
    simp only [gN, wYes, if_true]
    refine step j hj _ ⟨by simp; omega, hN _ _ ⟨?_, rfl⟩⟩
    rw [List.range_succ, List.map_append, List.map_append]
    rfl
  · subst h1 h3
    exact fin
theorem cut_take {α : Type} {xs : List α} {k : Nat} (h : k ≤ xs.length) : cutL xs none (some (k : Int)) = xs.take k := by
  unfold cutL
  rw [HT.sIx_none, HT.sIx_nat, Nat.min_eq_left h, Nat.sub_zero]
  rfl
theorem cut_drop {α : Type} {xs : List α} {k : Nat} (h : k ≤ xs.length) : cutL xs (some (k : Int)) none = xs.drop k := by
  unfold cutL
  rw [HT.sIx_none, HT.sIx_nat, Nat.min_eq_left h, ← List.length_drop, List.take_length]
theorem range_getD {α : Type} {d : α} {l : List α} : (List.range l.length).map (fun j => l.getD j d) = l := by
  refine List.ext_getElem (by simp) fun i h1 h2 => ?_
  simp [h2]
theorem sl_get {xs : List Str} {j : Nat} (h : j < xs.length) : atI ((sl xs).map U.d) (j : Int) = some (.d (.str xs[j])) := by
  rw [L3.at_n (by rw [List.length_map, sl_len]; exact h)]
  simp [sl]
theorem bl_get {xs : List Bool} {j : Nat} (h : j < xs.length) : atI ((bl xs).map U.d) (j : Int) = some (.d (.bool (lk xs j))) := by
  rw [L3.at_n (by rw [List.length_map, bl_len]; exact h)]
  simp [bl, lk, h]
theorem era_map {α β : Type} (f : α → β) : ∀ (l : List α) (n : Nat), (l.map f).eraseIdx n = (l.eraseIdx n).map f
  | [], _ => rfl
  | x :: l, 0 => rfl
  | x :: l, n + 1 => by
    show f x :: (l.map f).eraseIdx n = f x :: (l.eraseIdx n).map f
    rw [era_map f l n]
theorem era_perm {α : Type} : ∀ (l : List α) (n : Nat) (h : n < l.length), (l[n] :: l.eraseIdx n).Perm l
  | x :: l, 0, _ => .refl _
  | x :: l, n + 1, h => (List.Perm.swap _ _ _).trans (.cons x (era_perm l n (by simpa using h)))
def tab (n : Nat) (g : Nat → Bool) : List Bool := (List.range (2 ^ n)).map g
theorem tab_len {n : Nat} {g : Nat → Bool} : (tab n g).length = 2 ^ n := by unfold tab; rw [List.length_map, List.length_range]
theorem tab_lk {n k : Nat} {g : Nat → Bool} (h : k < 2 ^ n) : lk (tab n g) k = g k := by
  unfold lk tab
  rw [List.getElem?_map, List.getElem?_range h]
  rfl
theorem tab_uni {names : List Str} {g : Nat → Bool} {c : T} (hs : Srt names) (o : c.ok) (h : ∀ σ, c.ev σ = g (idx (names.map σ))) : c = form names (tab names.length g) :=
  form_uni hs tab_len o fun σ => by
    have l := idx_lt (names.map σ)
    rw [List.length_map] at l
    rw [h, tab_lk l]
theorem tab_map {n : Nat} {g : Nat → Bool} : ((List.range (2 ^ n)).map fun k => PyData.bool (g k)) = bl (tab n g) := by
  unfold bl tab
  rw [List.map_map]
  rfl
theorem app_cps (a b : Str) : (a ++ b).cps.toList = a.cps.toList ++ b.cps.toList := by
  show (a.cps ++ b.cps).toList = _
  exact Array.toList_append
theorem str_len (a : Str) : a.length = a.cps.toList.length := Array.length_toList.symm
theorem srt_of {ys : List Str} (so : sortedS ys = true) (nd : ys.Nodup) : Srt ys := by
  have go : ∀ (r : List Str) (p : Str), risingS p r = true → (p :: r).Nodup → (p :: r).Pairwise fun a b => L3M.ltS a b = true := by
    intro r
    induction r with
    | nil => intro p _ _; exact List.pairwise_singleton _ _
    | cons x r ih =>
      intro p h n
      have h : (!ltCps x.cps.toList p.cps.toList && risingS x r) = true := h
      rw [Bool.and_eq_true] at h
      have n' := List.nodup_cons.mp n
      have t := ih x h.2 n'.2
      have px : L3M.ltS p x = true := by
        have h1 : ltCps x.cps.toList p.cps.toList = false := by simpa using h.1
        rw [ltCps_eq] at h1
        rcases L3M.ltS_le (a := p) (b := x) h1 with k | k
        · exact k
        · exact absurd (by rw [k]; exact List.mem_cons_self ..) n'.1
      refine List.pairwise_cons.mpr ⟨fun y hy => ?_, t⟩
      rcases List.mem_cons.mp hy with rfl | hy
      · exact px
      · exact L3M.ltS_trans px ((List.pairwise_cons.mp t).1 y hy)
  cases ys with
  | nil => exact List.Pairwise.nil
  | cons p r => exact go r p so nd
theorem set_set {σ : Str → Bool} {s z : Str} {u v : Bool} (h : s ≠ z) : set (set σ s u) z v = set (set σ z v) s u := by
  funext y
  unfold Cn.set
  by_cases h1 : y = z
  · subst h1
    rw [if_pos rfl, if_neg (Ne.symm h), if_pos rfl]
  · rw [if_neg h1]
    by_cases h2 : y = s
    · rw [if_pos h2, if_pos h2]
    · rw [if_neg h2, if_neg h2, if_neg h1]
theorem ess : ∀ {c : T} {z : Str}, c.ok → (z ∈ ns c ↔ ∃ σ, c.ev (Cn.set σ z true) ≠ c.ev (Cn.set σ z false))
  | .lit b, z, _ => ⟨fun h => (nomatch h), fun ⟨σ, h⟩ => absurd rfl h⟩
  | .nd s a b, z, o => by
    refine ⟨fun h => ?_, fun ⟨σ, h⟩ => Classical.byContradiction fun k => h (by rw [ev_ns k, ev_ns k])⟩
    by_cases e : z = s
    · subst e
      have k : ∃ σ, a.ev σ ≠ b.ev σ := Classical.byContradiction fun k => o.2.2.2.2 (uni o.1 o.2.1 fun σ => Classical.byContradiction fun h => k ⟨σ, h⟩)
      obtain ⟨σ, k⟩ := k
      exact ⟨σ, by rw [ev_on o, ev_off o]; exact k⟩
    · have h : z ∈ ns a ∨ z ∈ ns b := by simpa [ns, e] using h
      rcases h with h | h
      · obtain ⟨σ, k⟩ := (ess o.1).mp h
        refine ⟨Cn.set σ s true, ?_⟩
        rw [set_set (Ne.symm e), set_set (Ne.symm e), ev_on o, ev_on o]
        exact k
      · obtain ⟨σ, k⟩ := (ess o.2.1).mp h
        refine ⟨Cn.set σ s false, ?_⟩
        rw [set_set (Ne.symm e), set_set (Ne.symm e), ev_off o, ev_off o]
        exact k
theorem srt_ext : ∀ {xs ys : List Str}, Srt xs → Srt ys → (∀ z, z ∈ xs ↔ z ∈ ys) → xs = ys
  | [], [], _, _, _ => rfl
  | [], y :: ys, _, _, h => absurd ((h y).mpr (List.mem_cons_self ..)) (by simp)
  | x :: xs, [], _, _, h => absurd ((h x).mp (List.mem_cons_self ..)) (by simp)
  | x :: xs, y :: ys, h1, h2, h => by
    have k1 := List.pairwise_cons.mp h1
    have k2 := List.pairwise_cons.mp h2
    have e : x = y := by
      rcases List.mem_cons.mp ((h x).mp (List.mem_cons_self ..)) with e | m
      · exact e
      · rcases List.mem_cons.mp ((h y).mpr (List.mem_cons_self ..)) with e | m'
        · exact e.symm
        · have a := k2.1 x m
          rw [L3M.ltS_asymm (k1.1 y m')] at a
          cases a
    subst e
    rw [srt_ext k1.2 k2.2 fun z => ?_]
    have hz := h z
    simp only [List.mem_cons] at hz
    by_cases e : z = x
    · subst e
      exact ⟨fun m => absurd (k1.1 z m) (by rw [L3M.ltS_irrefl]; exact Bool.false_ne_true), fun m => absurd (k2.1 z m) (by rw [L3M.ltS_irrefl]; exact Bool.false_ne_true)⟩
    · simpa [e] using hz
theorem form_sz : ∀ {names : List Str} {row : List Bool}, sz (form names row) + 1 ≤ 2 ^ names.length
  | [], _ => Nat.le_refl _
  | x :: xs, row => by
    have h1 := form_sz (names := xs) (row := row.drop (row.length / 2))
    have h2 := form_sz (names := xs) (row := row.take (row.length / 2))
    show sz (node x _ _) + 1 ≤ 2 ^ (xs.length + 1)
    rw [Nat.pow_succ]
    by_cases e : form xs (row.drop (row.length / 2)) = form xs (row.take (row.length / 2))
    · rw [node_eq e]
      omega
    · rw [node_ne e]
      show sz _ + sz _ + 1 + 1 ≤ _
      omega
theorem idx_inj {bs cs : List Bool} (h : bs.length = cs.length) (e : idx bs = idx cs) : bs = cs := by rw [← bitsOf_idx bs, ← bitsOf_idx cs, h, e]
theorem form_lit {names : List Str} (hs : Srt names) (b : Bool) : form names (tab names.length fun _ => b) = .lit b := (tab_uni hs (c := .lit b) trivial fun _ => rfl).symm
end
end K57

namespace K57
open PySem PySem.Spec PyProof.Rows L2 L3 Cn
section
variable {P : Program} {w : World} {K : Fg} {mg : Str → Option Value} {base : Heap}
/-! ### outcomes -/
def ot : Nat → PyData
  | 0 => .tuple [.str (Str.ofString "value"), .tuple [.str (Str.ofString "number"), .int 1], .int 0]
  | 1 => .tuple [.str (Str.ofString "value"), .tuple [.str (Str.ofString "truth"), .bool true], .int 0]
  | 2 => .tuple [.str (Str.ofString "stuck"), .int 3, .int 1]
  | 3 => .tuple [.str (Str.ofString "hole"), .int 3, .int 1]
  | 4 => .tuple [.str (Str.ofString "fuel"), .none, .int 400]
  | 5 => .tuple [.str (Str.ofString "value"), .tuple [.str (Str.ofString "number"), .int 0], .int 0]
  | _ => .tuple [.str (Str.ofString "value"), .tuple [.str (Str.ofString "number"), .int 1], .int 1]
def wd : Nat → Str
  | 2 => Str.ofString "stuck"
  | 3 => Str.ofString "hole"
  | 4 => Str.ofString "fuel"
  | _ => Str.ofString "value"
theorem ot_eq : ∀ i < 7, ∀ j < 7, PyData.eqv (ot i) (ot j) = decide (i = j) := by decide +kernel
theorem ot_shp : ∀ i < 7, SeqAt.shaped (ot i) = true ∧ (ot i).canLay0 = true ∧ (ot i).depth ≤ 2 := by decide +kernel
theorem ot_wd (i : Nat) : ∃ r, ot i = .tuple (.str (wd i) :: r) := by
  match i with
  | 0 => exact ⟨_, rfl⟩
  | 1 => exact ⟨_, rfl⟩
  | 2 => exact ⟨_, rfl⟩
  | 3 => exact ⟨_, rfl⟩
  | 4 => exact ⟨_, rfl⟩
  | 5 => exact ⟨_, rfl⟩
  | _ + 6 => exact ⟨_, rfl⟩
noncomputable def tbl (names : List Str) (rows : List (List Bool × Nat)) : List PyData := rows.map fun r => .tuple [(form names r.1).d, ot r.2]
theorem tbl_len {names : List Str} {rows : List (List Bool × Nat)} : (tbl names rows).length = rows.length := List.length_map _
structure Rws (names : List Str) (rows : List (List Bool × Nat)) : Prop where
  srt : Srt names
  ok : ∀ x ∈ names, PyData.strOk x = true
  n5 : names.length ≤ 5
  len : ∀ r ∈ rows, r.1.length = 2 ^ names.length
def orW (rows : List (List Bool × Nat)) (word : Str) (k : Nat) : Bool := rows.any fun r => decide (wd r.2 = word) && lk r.1 k
def S_oc : WF := fun us μ Q => ∃ (names : List Str) (rows : List (List Bool × Nat)) (word : Str), us = [.d (.tuple (tbl names rows)), .d (.str word)] ∧ Rws names rows ∧ Q (.d (form names (tab names.length (orW rows word))).d) μ
theorem oc_ok (D : Dn K mg "outcome_condition" s_p_outcome_condition) (D0 : Dn K mg "either" s_p_either) (D1 : Dn K mg "_side" s_p__side) (D2 : Dn K mg "_node" s_p__node) (m1 : mg "isinstance" = none) (m2 : mg "tuple" = none) (m3 : mg "min" = none) : C8.Cal P w K mg base 13 "outcome_condition" (sp3 K S_oc) [] :=
  cal_p_outcome_condition D (c_p_either := either_ok D0 D1 D2 m1 m2 m3 10) (h_p_either := by omega) (len := fun us μ Q ⟨_, _, _, e, _⟩ => by rw [e]; rfl) (h := fun us μ Q ⟨names, rows, word, e, R, q⟩ => by
    subst e
    have big : 1000 < sizeLine := by decide
    simp [wSeq, wIfS, wRet, wRetN, wNext, wDrop, wAsg, wAug, wBreak, wCont, wV, wC, wB, L3.wTru, L3.wNot, wAnd, wOr, wAndV, wOrV, wNotV, L3.wIf, wNeg, wOp, wCall, wQ, wML, wNil, wCons, wTup, wLst, wLstM, wIsi, wSl, wPart, wNoPart, wMinD, wJoin, wFrz, gN, sIx, sIs, sIsN, sI, sI0, truU, tyOk, tyU, isTruth, L3.isNon, itemsU, listU, ixU, qInt, qAbs, qStr, L3.max_int, start3, L3.kk_nb, L3.kk_nt, L3.kk_ni, L3.kk_ns, L3.kk_nl, L3.kk_bb, L3.kk_bt, L3.kk_bi, L3.kk_bs, L3.kk_bl, L3.kk_ib, L3.kk_it, L3.kk_ii, L3.kk_is, L3.kk_il, L3.kk_sb, L3.kk_st, L3.kk_si, L3.kk_ss, L3.kk_sl, L3.kk_tb, L3.kk_tt, L3.kk_ti, L3.kk_ts, L3.kk_tl, L3.kk_lb, L3.kk_lt, L3.kk_li, L3.kk_ls, L3.kk_ll, L3.at_0, L3.at_1, L3.at_2, L3.at_3, L3.eqA_int, L3.eqA_str, L3.eqA_bl, L3.lt_int, L3.gt_int, L3.le_int, L3.ge_int, L3.lt_str, L3.gt_str, L3.le_str, L3.ge_str, L3.add_int, L3.add_str, L3.exd, L3.exd0, L3.exd1, L3.exd2, L3.exd3, L3.exd4, L3.min_int, L3.min_str, L3.len_str, L3.len_lst, L3.len_tup, W_p_outcome_condition, wFor, jSeq]
    refine forGo_inv (fun j ρ μ' => ∃ x y : Option U, ρ = [some (.d (.tuple (tbl names rows))), some (.d (.str word)), some (.d (form names (tab names.length (orW (rows.take j) word))).d), x, y] ∧ μ' = μ) ⟨none, none, ?_, rfl⟩ (fun _ _ _ _ => trivial) (fun j hj ρ μ' N ⟨x, y, h1, h2⟩ hN => ?_) (fun ρ μ' ⟨x, y, h1, h2⟩ => ?_)
    · rw [show orW (rows.take 0) word = fun _ => false from rfl, form_lit R.srt]
      rfl
    · subst h1 h2
      have hj : j < rows.length := by simpa [tbl_len] using hj
      have hx : ((tbl names rows).map U.d)[j]'(by simpa [tbl_len] using hj) = .d (.tuple [(form names rows[j].1).d, ot rows[j].2]) := by simp [tbl]
      rw [hx]
      have hl := R.len _ (List.getElem_mem hj)
      have tk : orW (rows.take (j + 1)) word = fun k => orW (rows.take j) word k || (decide (wd rows[j].2 = word) && lk rows[j].1 k) := by
        funext k
        unfold orW
        rw [List.take_succ_eq_append_getElem hj, List.any_append]
        simp
      obtain ⟨rest, er⟩ := ot_wd rows[j].2
      rw [er]
      simp [wSeq, wIfS, wRet, wRetN, wNext, wDrop, wAsg, wAug, wBreak, wCont, wV, wC, wB, L3.wTru, L3.wNot, wAnd, wOr, wAndV, wOrV, wNotV, L3.wIf, wNeg, wOp, wCall, wQ, wML, wNil, wCons, wTup, wLst, wLstM, wIsi, wSl, wPart, wNoPart, wMinD, wJoin, wFrz, gN, sIx, sIs, sIsN, sI, sI0, truU, tyOk, tyU, isTruth, L3.isNon, itemsU, listU, ixU, qInt, qAbs, qStr, L3.max_int, start3, L3.kk_nb, L3.kk_nt, L3.kk_ni, L3.kk_ns, L3.kk_nl, L3.kk_bb, L3.kk_bt, L3.kk_bi, L3.kk_bs, L3.kk_bl, L3.kk_ib, L3.kk_it, L3.kk_ii, L3.kk_is, L3.kk_il, L3.kk_sb, L3.kk_st, L3.kk_si, L3.kk_ss, L3.kk_sl, L3.kk_tb, L3.kk_tt, L3.kk_ti, L3.kk_ts, L3.kk_tl, L3.kk_lb, L3.kk_lt, L3.kk_li, L3.kk_ls, L3.kk_ll, L3.at_0, L3.at_1, L3.at_2, L3.at_3, L3.eqA_int, L3.eqA_str, L3.eqA_bl, L3.lt_int, L3.gt_int, L3.le_int, L3.ge_int, L3.lt_str, L3.gt_str, L3.le_str, L3.ge_str, L3.add_int, L3.add_str, L3.exd, L3.exd0, L3.exd1, L3.exd2, L3.exd3, L3.exd4, L3.min_int, L3.min_str, L3.len_str, L3.len_lst, L3.len_tup, gT, gT.gGo]
      refine ⟨_, _, ⟨rfl, rfl⟩, _, ⟨_, rfl⟩, ?_⟩
      simp [wSeq, wIfS, wRet, wRetN, wNext, wDrop, wAsg, wAug, wBreak, wCont, wV, wC, wB, L3.wTru, L3.wNot, wAnd, wOr, wAndV, wOrV, wNotV, L3.wIf, wNeg, wOp, wCall, wQ, wML, wNil, wCons, wTup, wLst, wLstM, wIsi, wSl, wPart, wNoPart, wMinD, wJoin, wFrz, gN, sIx, sIs, sIsN, sI, sI0, truU, tyOk, tyU, isTruth, L3.isNon, itemsU, listU, ixU, qInt, qAbs, qStr, L3.max_int, start3, L3.kk_nb, L3.kk_nt, L3.kk_ni, L3.kk_ns, L3.kk_nl, L3.kk_bb, L3.kk_bt, L3.kk_bi, L3.kk_bs, L3.kk_bl, L3.kk_ib, L3.kk_it, L3.kk_ii, L3.kk_is, L3.kk_il, L3.kk_sb, L3.kk_st, L3.kk_si, L3.kk_ss, L3.kk_sl, L3.kk_tb, L3.kk_tt, L3.kk_ti, L3.kk_ts, L3.kk_tl, L3.kk_lb, L3.kk_lt, L3.kk_li, L3.kk_ls, L3.kk_ll, L3.at_0, L3.at_1, L3.at_2, L3.at_3, L3.eqA_int, L3.eqA_str, L3.eqA_bl, L3.lt_int, L3.gt_int, L3.le_int, L3.ge_int, L3.lt_str, L3.gt_str, L3.le_str, L3.ge_str, L3.add_int, L3.add_str, L3.exd, L3.exd0, L3.exd1, L3.exd2, L3.exd3, L3.exd4, L3.min_int, L3.min_str, L3.len_str, L3.len_lst, L3.len_tup]
      by_cases c : wd rows[j].2 = word
      · refine .inr ⟨c, _, _, rfl, (form_ab R.srt).1, (form_ab R.srt).1, form_nm R.ok, form_nm R.ok, ?_, ?_, fun r ar => ?_⟩
        · have h1 := form_h (names := names) (row := tab names.length (orW (rows.take j) word))
          have h2 := form_h (names := names) (row := rows[j].1)
          have := R.n5
          omega
        · have h1 := form_h (names := names) (row := tab names.length (orW (rows.take j) word))
          have h2 := form_h (names := names) (row := rows[j].1)
          have := R.n5
          omega
        · have e2 : r = form names (tab names.length (orW (rows.take (j + 1)) word)) := tab_uni R.srt ar.ok fun σ => by
            have l := idx_lt (names.map σ)
            rw [List.length_map] at l
            rw [ar.ev, form_lk σ tab_len, tab_lk l, form_lk σ hl, tk, decide_eq_true c]
            rfl
          rw [e2]
          exact hN _ _ ⟨_, _, rfl, rfl⟩
      · refine .inl ⟨c, ?_⟩
        have e2 : orW (rows.take (j + 1)) word = orW (rows.take j) word := by
          rw [tk]
          funext k
          rw [decide_eq_false c, Bool.false_and, Bool.or_false]
        rw [← e2]
        exact hN _ _ ⟨_, _, rfl, rfl⟩
    · subst h1 h2
      rw [List.length_map, tbl_len, List.take_length]
      simp [wSeq, wIfS, wRet, wRetN, wNext, wDrop, wAsg, wAug, wBreak, wCont, wV, wC, wB, L3.wTru, L3.wNot, wAnd, wOr, wAndV, wOrV, wNotV, L3.wIf, wNeg, wOp, wCall, wQ, wML, wNil, wCons, wTup, wLst, wLstM, wIsi, wSl, wPart, wNoPart, wMinD, wJoin, wFrz, gN, sIx, sIs, sIsN, sI, sI0, truU, tyOk, tyU, isTruth, L3.isNon, itemsU, listU, ixU, qInt, qAbs, qStr, L3.max_int, start3, L3.kk_nb, L3.kk_nt, L3.kk_ni, L3.kk_ns, L3.kk_nl, L3.kk_bb, L3.kk_bt, L3.kk_bi, L3.kk_bs, L3.kk_bl, L3.kk_ib, L3.kk_it, L3.kk_ii, L3.kk_is, L3.kk_il, L3.kk_sb, L3.kk_st, L3.kk_si, L3.kk_ss, L3.kk_sl, L3.kk_tb, L3.kk_tt, L3.kk_ti, L3.kk_ts, L3.kk_tl, L3.kk_lb, L3.kk_lt, L3.kk_li, L3.kk_ls, L3.kk_ll, L3.at_0, L3.at_1, L3.at_2, L3.at_3, L3.eqA_int, L3.eqA_str, L3.eqA_bl, L3.lt_int, L3.gt_int, L3.le_int, L3.ge_int, L3.lt_str, L3.gt_str, L3.le_str, L3.ge_str, L3.add_int, L3.add_str, L3.exd, L3.exd0, L3.exd1, L3.exd2, L3.exd3, L3.exd4, L3.min_int, L3.min_str, L3.len_str, L3.len_lst, L3.len_tup]
      exact rtE q)
/-! ### deciding_switches -/
theorem ns_form {names : List Str} {row : List Bool} (R : Srt names) (h : row.length = 2 ^ names.length) {z : Str} (hz : z ∈ ns (form names row)) : z ∈ names := by
  obtain ⟨σ, k⟩ := (ess (form_ab R).1).mp hz
  refine Classical.byContradiction fun n => k ?_
  rw [form_lk _ h, form_lk _ h, set_map_out n, set_map_out n]
theorem len_sub : ∀ {ks names : List Str}, ks.Nodup → (∀ z ∈ ks, z ∈ names) → ks.length ≤ names.length
  | [], _, _, _ => Nat.zero_le _
  | k :: ks, names, nd, h => by
    obtain ⟨n1, n2⟩ := List.nodup_cons.mp nd
    have l := len_sub (ks := ks) (names := names.erase k) n2 fun z hz => (List.mem_erase_of_ne (fun e : z = k => n1 (e ▸ hz))).mpr (h z (List.mem_cons_of_mem _ hz))
    have k1 := h k (List.mem_cons_self ..)
    have := List.length_erase_of_mem k1
    have := List.length_pos_of_mem k1
    rw [List.length_cons]
    omega
def S_dc : WF := fun us μ Q => ∃ (names : List Str) (rows : List (List Bool × Nat)), us = [.d (.tuple (tbl names rows))] ∧ Rws names rows ∧
  ∀ ys : List Str, sortedS ys = true → ys.Nodup → (∀ z, z ∈ ys ↔ ∃ r ∈ rows, z ∈ ns (form names r.1)) → Q (.d (.tuple (sl ys))) μ
theorem kS_merge : ∀ {more ks : List Str}, ∃ ks', mergeU (kS ks) (kS more) = kS ks' ∧ (ks.Nodup → ks'.Nodup) ∧ ∀ y, y ∈ ks' ↔ y ∈ ks ∨ y ∈ more
  | [], ks => ⟨ks, rfl, fun h => h, fun y => by simp⟩
  | z :: more, ks => by
    obtain ⟨k1, e1, _, n1, h1⟩ := kS_put (ks := ks) (z := z)
    obtain ⟨k2, e2, n2, h2⟩ := kS_merge (more := more) (ks := k1)
    refine ⟨k2, ?_, fun h => n2 (n1 h), fun y => ?_⟩
    · show mergeU (putU (kS ks) (.inr z) (.d (.bool true))) (kS more) = _
      rw [e1, e2]
    · rw [h2, h1, List.mem_cons, or_assoc]
theorem dc_ok (D : Dn K mg "deciding_switches" s_p_deciding_switches) (D1 : Dn K mg "switches_of" s_p_switches_of) (m1 : mg "isinstance" = none) (m2 : mg "tuple" = none) (m3 : mg "sorted" = none) : C8.Cal P w K mg base 2 "deciding_switches" (sp3 K S_dc) [] :=
  cal_p_deciding_switches D (c_p_switches_of := switches_ok D1 m1 m2 m3) (h_p_switches_of := Nat.le_refl _) (m_sorted := m3) (m_tuple := m2) (len := fun us μ Q ⟨_, _, e, _⟩ => by rw [e]; rfl) (h := fun us μ Q ⟨names, rows, e, R, q⟩ => by
    subst e
    have big : 1000 < sizeLine := by decide
    simp [wSeq, wIfS, wRet, wRetN, wNext, wDrop, wAsg, wAug, wBreak, wCont, wV, wC, wB, L3.wTru, L3.wNot, wAnd, wOr, wAndV, wOrV, wNotV, L3.wIf, wNeg, wOp, wCall, wQ, wML, wNil, wCons, wTup, wLst, wLstM, wIsi, wSl, wPart, wNoPart, wMinD, wJoin, wFrz, gN, sIx, sIs, sIsN, sI, sI0, truU, tyOk, tyU, isTruth, L3.isNon, itemsU, listU, ixU, qInt, qAbs, qStr, L3.max_int, start3, L3.kk_nb, L3.kk_nt, L3.kk_ni, L3.kk_ns, L3.kk_nl, L3.kk_bb, L3.kk_bt, L3.kk_bi, L3.kk_bs, L3.kk_bl, L3.kk_ib, L3.kk_it, L3.kk_ii, L3.kk_is, L3.kk_il, L3.kk_sb, L3.kk_st, L3.kk_si, L3.kk_ss, L3.kk_sl, L3.kk_tb, L3.kk_tt, L3.kk_ti, L3.kk_ts, L3.kk_tl, L3.kk_lb, L3.kk_lt, L3.kk_li, L3.kk_ls, L3.kk_ll, L3.at_0, L3.at_1, L3.at_2, L3.at_3, L3.eqA_int, L3.eqA_str, L3.eqA_bl, L3.lt_int, L3.gt_int, L3.le_int, L3.ge_int, L3.lt_str, L3.gt_str, L3.le_str, L3.ge_str, L3.add_int, L3.add_str, L3.exd, L3.exd0, L3.exd1, L3.exd2, L3.exd3, L3.exd4, L3.min_int, L3.min_str, L3.len_str, L3.len_lst, L3.len_tup, W_p_deciding_switches, wFor, jSeq, wDictN]
    intro f hf
    refine forGo_inv (fun j ρ μ' => ∃ (x y z : Option U) (ks : List Str), ρ = [some (.d (.tuple (tbl names rows))), some (.r f), x, y, z] ∧ μ' = put μ f (.dct (kS ks)) ∧ ks.Nodup ∧ ∀ z, z ∈ ks ↔ ∃ r ∈ rows.take j, z ∈ ns (form names r.1)) ⟨none, none, none, [], rfl, rfl, List.nodup_nil, fun z => by simp⟩ (fun _ _ _ _ => trivial) (fun j hj ρ μ' N ⟨x, y, u, ks, h1, h2, h3, h4⟩ hN => ?_) (fun ρ μ' ⟨x, y, u, ks, h1, h2, h3, h4⟩ => ?_)
    · subst h1 h2
      have hj : j < rows.length := by simpa [tbl_len] using hj
      have hx : ((tbl names rows).map U.d)[j]'(by simpa [tbl_len] using hj) = .d (.tuple [(form names rows[j].1).d, ot rows[j].2]) := by simp [tbl]
      rw [hx]
      have hl := R.len _ (List.getElem_mem hj)
      have sz := form_sz (names := names) (row := rows[j].1)
      have n5 := R.n5
      have p5 : 2 ^ names.length ≤ 2 ^ 5 := Nat.pow_le_pow_right (by decide) n5
      simp [wSeq, wIfS, wRet, wRetN, wNext, wDrop, wAsg, wAug, wBreak, wCont, wV, wC, wB, L3.wTru, L3.wNot, wAnd, wOr, wAndV, wOrV, wNotV, L3.wIf, wNeg, wOp, wCall, wQ, wML, wNil, wCons, wTup, wLst, wLstM, wIsi, wSl, wPart, wNoPart, wMinD, wJoin, wFrz, gN, sIx, sIs, sIsN, sI, sI0, truU, tyOk, tyU, isTruth, L3.isNon, itemsU, listU, ixU, qInt, qAbs, qStr, L3.max_int, start3, L3.kk_nb, L3.kk_nt, L3.kk_ni, L3.kk_ns, L3.kk_nl, L3.kk_bb, L3.kk_bt, L3.kk_bi, L3.kk_bs, L3.kk_bl, L3.kk_ib, L3.kk_it, L3.kk_ii, L3.kk_is, L3.kk_il, L3.kk_sb, L3.kk_st, L3.kk_si, L3.kk_ss, L3.kk_sl, L3.kk_tb, L3.kk_tt, L3.kk_ti, L3.kk_ts, L3.kk_tl, L3.kk_lb, L3.kk_lt, L3.kk_li, L3.kk_ls, L3.kk_ll, L3.at_0, L3.at_1, L3.at_2, L3.at_3, L3.eqA_int, L3.eqA_str, L3.eqA_bl, L3.lt_int, L3.gt_int, L3.le_int, L3.ge_int, L3.lt_str, L3.gt_str, L3.le_str, L3.ge_str, L3.add_int, L3.add_str, L3.exd, L3.exd0, L3.exd1, L3.exd2, L3.exd3, L3.exd4, L3.min_int, L3.min_str, L3.len_str, L3.len_lst, L3.len_tup, gT, gT.gGo, wDropF, wMD, wDc, jSeq]
      refine ⟨_, _, ⟨rfl, rfl⟩, _, ⟨_, rfl⟩, ⟨f, kS ks, rfl, put_same⟩, form names rows[j].1, rfl, by omega, fun ys so nd me => ?_⟩
      have ly : ys.length ≤ names.length := len_sub nd fun z hz => ns_form R.srt hl ((me z).mp hz)
      have lk : ks.length ≤ names.length := len_sub h3 fun z hz => by
        obtain ⟨r, hr, h⟩ := (h4 z).mp hz
        exact ns_form R.srt (R.len r (List.mem_of_mem_take hr)) h
      refine ⟨(ys.map PyData.str).map U.d, rfl, ?_⟩
      refine dcGo_inv (fun i acc μ' => ∃ k2 : List Str, acc = kS k2 ∧ (∀ z, z ∈ k2 ↔ z ∈ ys.take i) ∧ k2.length ≤ i ∧ μ' = put μ f (.dct (kS ks))) ⟨[], rfl, fun z => by simp, Nat.zero_le _, rfl⟩ (fun _ _ _ _ => rfl) (fun i hi acc μ' N' ⟨k2, e1, e2, e3, e4⟩ hN' => ?_) (fun acc μ' ⟨k2, e1, e2, e3, e4⟩ => ?_)
      · subst e1 e4
        have hi : i < ys.length := by simpa using hi
        have hz : ((ys.map PyData.str).map U.d)[i]'(by simpa using hi) = .d (.str ys[i]) := by simp
        rw [hz]
        obtain ⟨k3, g1, g2, _, g3⟩ := kS_put (ks := k2) (z := ys[i])
        have lz : (kS k2).length = k2.length := List.length_map _
        simp [wSeq, wIfS, wRet, wRetN, wNext, wDrop, wAsg, wAug, wBreak, wCont, wV, wC, wB, L3.wTru, L3.wNot, wAnd, wOr, wAndV, wOrV, wNotV, L3.wIf, wNeg, wOp, wCall, wQ, wML, wNil, wCons, wTup, wLst, wLstM, wIsi, wSl, wPart, wNoPart, wMinD, wJoin, wFrz, gN, sIx, sIs, sIsN, sI, sI0, truU, tyOk, tyU, isTruth, L3.isNon, itemsU, listU, ixU, qInt, qAbs, qStr, L3.max_int, start3, L3.kk_nb, L3.kk_nt, L3.kk_ni, L3.kk_ns, L3.kk_nl, L3.kk_bb, L3.kk_bt, L3.kk_bi, L3.kk_bs, L3.kk_bl, L3.kk_ib, L3.kk_it, L3.kk_ii, L3.kk_is, L3.kk_il, L3.kk_sb, L3.kk_st, L3.kk_si, L3.kk_ss, L3.kk_sl, L3.kk_tb, L3.kk_tt, L3.kk_ti, L3.kk_ts, L3.kk_tl, L3.kk_lb, L3.kk_lt, L3.kk_li, L3.kk_ls, L3.kk_ll, L3.at_0, L3.at_1, L3.at_2, L3.at_3, L3.eqA_int, L3.eqA_str, L3.eqA_bl, L3.lt_int, L3.gt_int, L3.le_int, L3.ge_int, L3.lt_str, L3.gt_str, L3.le_str, L3.ge_str, L3.add_int, L3.add_str, L3.exd, L3.exd0, L3.exd1, L3.exd2, L3.exd3, L3.exd4, L3.min_int, L3.min_str, L3.len_str, L3.len_lst, L3.len_tup, wipeR, wYes]
        refine ⟨.inr ys[i], rfl, by omega, ?_⟩
        rw [g1]
        refine hN' _ _ ⟨k3, rfl, fun z => ?_, by omega, rfl⟩
        rw [g3, e2, List.take_succ_eq_append_getElem hi, List.mem_append, List.mem_singleton]
      · subst e1 e4
        rw [List.length_map, List.length_map, List.take_length] at e2
        rw [List.length_map, List.length_map] at e3
        intro p hp
        have pf : p ≠ f := fun e => by
          subst e
          rw [put_same] at hp
          cases hp
        rw [put_ne pf] at hp
        obtain ⟨k3, g1, g2, g3⟩ := kS_merge (more := k2) (ks := ks)
        have lz : (kS k2).length = k2.length := List.length_map _
        have lw : (kS ks).length = ks.length := List.length_map _
        refine ⟨f, p, kS ks, kS k2, rfl, rfl, pf.symm, by rw [put_ne pf.symm, put_same], put_same, by omega, put μ f (.dct (kS k3)), fun a m h => ?_, hN _ _ ⟨_, _, _, k3, rfl, rfl, g2 h3, fun z => ?_⟩⟩
        · rw [g1]
          by_cases q : a = f
          · subst q
            rw [put_same] at h ⊢
            exact h
          · rw [put_ne q] at h ⊢
            have ap : a ≠ p := fun e => by
              subst e
              rw [hp] at h
              cases h
            rw [put_ne ap, put_ne q]
            exact h
        · rw [g3, h4, e2, me, List.take_succ_eq_append_getElem hj]
          simp only [List.mem_append, List.mem_singleton]
          constructor
          · rintro (⟨r, hr, h⟩ | h)
            · exact ⟨r, .inl hr, h⟩
            · exact ⟨_, .inr rfl, h⟩
          · rintro ⟨r, hr | hr, h⟩
            · exact .inl ⟨r, hr, h⟩
            · subst hr
              exact .inr h
    · subst h1 h2
      rw [List.length_map, tbl_len, List.take_length] at h4
      simp [wSeq, wIfS, wRet, wRetN, wNext, wDrop, wAsg, wAug, wBreak, wCont, wV, wC, wB, L3.wTru, L3.wNot, wAnd, wOr, wAndV, wOrV, wNotV, L3.wIf, wNeg, wOp, wCall, wQ, wML, wNil, wCons, wTup, wLst, wLstM, wIsi, wSl, wPart, wNoPart, wMinD, wJoin, wFrz, gN, sIx, sIs, sIsN, sI, sI0, truU, tyOk, tyU, isTruth, L3.isNon, itemsU, listU, ixU, qInt, qAbs, qStr, L3.max_int, start3, L3.kk_nb, L3.kk_nt, L3.kk_ni, L3.kk_ns, L3.kk_nl, L3.kk_bb, L3.kk_bt, L3.kk_bi, L3.kk_bs, L3.kk_bl, L3.kk_ib, L3.kk_it, L3.kk_ii, L3.kk_is, L3.kk_il, L3.kk_sb, L3.kk_st, L3.kk_si, L3.kk_ss, L3.kk_sl, L3.kk_tb, L3.kk_tt, L3.kk_ti, L3.kk_ts, L3.kk_tl, L3.kk_lb, L3.kk_lt, L3.kk_li, L3.kk_ls, L3.kk_ll, L3.at_0, L3.at_1, L3.at_2, L3.at_3, L3.eqA_int, L3.eqA_str, L3.eqA_bl, L3.lt_int, L3.gt_int, L3.le_int, L3.ge_int, L3.lt_str, L3.gt_str, L3.le_str, L3.ge_str, L3.add_int, L3.add_str, L3.exd, L3.exd0, L3.exd1, L3.exd2, L3.exd3, L3.exd4, L3.min_int, L3.min_str, L3.len_str, L3.len_lst, L3.len_tup]
      have e : isDct (put μ f (.dct (kS ks))) (U.r f) = true := by
        show (match put μ f (.dct (kS ks)) f with
          | some (.dct _) => true
          | _ => false) = true
        rw [put_same]
      unfold qSortA
      simp only [e, if_true]
      refine ⟨f, kS ks, ks, rfl, put_same, ?_, ?_, fun ys p so => ?_⟩
      · unfold kS
        rw [List.map_map]
        rfl
      · have l := len_sub h3 fun z hz => (fun ⟨r, hr, h⟩ => ns_form R.srt (R.len r hr) h : (∃ r ∈ rows, z ∈ ns (form names r.1)) → z ∈ names) ((h4 z).mp hz)
        have := R.n5
        omega
      · refine ⟨_, ys.map .str, rfl, rfl, rtD f (rtE ?_)⟩
        rw [del_put hf]
        refine q ys so (p.nodup_iff.mpr h3) fun z => ?_
        rw [p.mem_iff, h4])
end
end K57

namespace K57
open PySem PySem.Spec PyProof.Rows L2 L3 Cn Lt
section
variable {P : Program} {w : World} {K : Fg} {mg : Str → Option Value} {base : Heap}
/-- those of a row that stand a test, each told otherwise -/
theorem lc_filter {α : Type} {i : Nat} {wt : WB} {we : L3.WX} {Al : Mu → Prop} {ρ : Rho} {μ : Mu} {P : List U → Mu → Prop} (xs : List α) (g : α → U) (g' : α → PyData) (p : α → Bool) (hl : xs.length < sizeLine) (al : Al μ)
    (test : ∀ x ∈ xs, ∀ T : Bool → Mu → Prop, T (p x) μ → wt (ρ.set i (some (g x))) μ T) (elt : ∀ x ∈ xs, p x = true → ∀ N : XP, N (.d (g' x)) μ → we (ρ.set i (some (g x))) μ N)
    (fin : P (((xs.filter p).map g').map U.d) μ) : lcGo (gN i) wt we Al (xs.map g) [] ρ μ P := by
  refine lcGo_inv (fun j acc μ' => acc = (((xs.take j).filter p).map g').map U.d ∧ μ' = μ) ⟨rfl, rfl⟩ (fun j acc μ' ⟨_, e⟩ => e ▸ al) (fun j hj acc μ' N ⟨h1, h3⟩ hN => ?_) (fun acc μ' ⟨h1, h3⟩ => ?_)
  · subst h1 h3
    have hj : j < xs.length := by simpa using hj
    have hx : (xs.map g)[j]'(by simpa using hj) = g xs[j] := by simp
    rw [hx]
    simp only [gN]
    have tk : ((xs.take (j + 1)).filter p) = (xs.take j).filter p ++ if p xs[j] = true then [xs[j]] else [] := by
      rw [List.take_succ_eq_append_getElem hj, List.filter_append]
      cases h : p xs[j] <;> simp [h]
    refine test _ (List.getElem_mem hj) _ ?_
    by_cases h : p xs[j] = true
    · rw [if_pos h]
      refine elt _ (List.getElem_mem hj) h _ ⟨?_, hN _ _ ⟨?_, rfl⟩⟩
      · have := List.length_filter_le p (xs.take j)
        rw [List.length_take] at this
        simp only [List.length_map]
        omega
      · rw [tk, if_pos h]
        simp
    · rw [if_neg h]
      refine hN _ _ ⟨?_, rfl⟩
      rw [tk, if_neg h, List.append_nil]
  · subst h1 h3
    rw [List.length_map, List.take_length]
    exact fin
/-! ### shuffled -/
def S_sh : WF := fun us μ Q => ∃ (h : Addr) (xs : List PyData), us = [.r h, .d (.list xs)] ∧ μ h = some .hand ∧ xs.length ≤ 1000 ∧ ∀ ys : List PyData, ys.Perm xs → Q (.d (.list ys)) μ
theorem shuffled_ok (D : Dn K mg "_law_shuffled" s_l_shuffled) (D1 : Dn K mg "_law_take" s_l_take) (D2 : Dn K mg "_law_stirred" s_l_stirred) (m1 : mg "int" = none) (m2 : mg "len" = none) (m3 : mg "list" = none) (m4 : mg "range" = none) : C8.Cal P w K mg base 3 "_law_shuffled" (sp3 K S_sh) [] :=
  cal_l_shuffled D (c_l_take := take_ok D1 D2 m1 m2) (h_l_take := Nat.le_refl _) (m_list := m3) (m_len := m2) (m_range := m4) (len := fun us μ Q ⟨_, _, e, _⟩ => by rw [e]; rfl) (h := fun us μ Q ⟨h, xs, e, hh, hx, q⟩ => by
    subst e
    simp [wSeq, wIfS, wRet, wRetN, wNext, wDrop, wAsg, wAug, wBreak, wCont, wV, wC, wB, L3.wTru, L3.wNot, wAnd, wOr, wAndV, wOrV, wNotV, L3.wIf, wNeg, wOp, wCall, wQ, wML, wNil, wCons, wTup, wLst, wLstM, wIsi, wSl, wPart, wNoPart, wMinD, wJoin, wFrz, gN, sIx, sIs, sIsN, sI, sI0, truU, tyOk, tyU, isTruth, L3.isNon, itemsU, listU, ixU, qInt, qAbs, qStr, L3.max_int, start3, L3.kk_nb, L3.kk_nt, L3.kk_ni, L3.kk_ns, L3.kk_nl, L3.kk_bb, L3.kk_bt, L3.kk_bi, L3.kk_bs, L3.kk_bl, L3.kk_ib, L3.kk_it, L3.kk_ii, L3.kk_is, L3.kk_il, L3.kk_sb, L3.kk_st, L3.kk_si, L3.kk_ss, L3.kk_sl, L3.kk_tb, L3.kk_tt, L3.kk_ti, L3.kk_ts, L3.kk_tl, L3.kk_lb, L3.kk_lt, L3.kk_li, L3.kk_ls, L3.kk_ll, L3.at_0, L3.at_1, L3.at_2, L3.at_3, L3.eqA_int, L3.eqA_str, L3.eqA_bl, L3.lt_int, L3.gt_int, L3.le_int, L3.ge_int, L3.lt_str, L3.gt_str, L3.le_str, L3.ge_str, L3.add_int, L3.add_str, L3.exd, L3.exd0, L3.exd1, L3.exd2, L3.exd3, L3.exd4, L3.min_int, L3.min_str, L3.len_str, L3.len_lst, L3.len_tup, W_l_shuffled, wLc, jRng1, qListM]
    intro p hp
    have ph : h ≠ p := fun e => by rw [e, hp] at hh; cases hh
    have big : 1000 < sizeLine := by decide
    refine len_r put_same ⟨_, rfl, by omega, by simp; omega, lcGo_inv (fun j acc μ' => ∃ (l a : List PyData), acc = a.map U.d ∧ μ' = put μ p (.lst (l.map U.d)) ∧ (a ++ l).Perm xs ∧ a.length = j) ⟨xs, [], rfl, rfl, .refl _, rfl⟩ (fun _ _ _ _ => trivial) (fun j hj acc μ' N ⟨l, a, h1, h2, h3, h4⟩ hN => ?_) (fun acc μ' ⟨l, a, h1, h2, h3, h4⟩ => ?_)⟩
    · subst h1 h2
      have hl := h3.length_eq
      rw [List.length_append] at hl
      have hj : j < xs.length := by simpa using hj
      simp [wSeq, wIfS, wRet, wRetN, wNext, wDrop, wAsg, wAug, wBreak, wCont, wV, wC, wB, L3.wTru, L3.wNot, wAnd, wOr, wAndV, wOrV, wNotV, L3.wIf, wNeg, wOp, wCall, wQ, wML, wNil, wCons, wTup, wLst, wLstM, wIsi, wSl, wPart, wNoPart, wMinD, wJoin, wFrz, gN, sIx, sIs, sIsN, sI, sI0, truU, tyOk, tyU, isTruth, L3.isNon, itemsU, listU, ixU, qInt, qAbs, qStr, L3.max_int, start3, L3.kk_nb, L3.kk_nt, L3.kk_ni, L3.kk_ns, L3.kk_nl, L3.kk_bb, L3.kk_bt, L3.kk_bi, L3.kk_bs, L3.kk_bl, L3.kk_ib, L3.kk_it, L3.kk_ii, L3.kk_is, L3.kk_il, L3.kk_sb, L3.kk_st, L3.kk_si, L3.kk_ss, L3.kk_sl, L3.kk_tb, L3.kk_tt, L3.kk_ti, L3.kk_ts, L3.kk_tl, L3.kk_lb, L3.kk_lt, L3.kk_li, L3.kk_ls, L3.kk_ll, L3.at_0, L3.at_1, L3.at_2, L3.at_3, L3.eqA_int, L3.eqA_str, L3.eqA_bl, L3.lt_int, L3.gt_int, L3.le_int, L3.ge_int, L3.lt_str, L3.gt_str, L3.le_str, L3.ge_str, L3.add_int, L3.add_str, L3.exd, L3.exd0, L3.exd1, L3.exd2, L3.exd3, L3.exd4, L3.min_int, L3.min_str, L3.len_str, L3.len_lst, L3.len_tup, wipeR, wYes]
      refine ⟨isL_r put_same, len_r put_same ⟨h, _, rfl, by rw [put_ne ph]; exact hh, by simp; omega, by simp; omega, fun z z1 z2 => ?_⟩⟩
      obtain ⟨n, rfl⟩ := Int.eq_ofNat_of_zero_le z1
      have hn : n < l.length := by simpa using z2
      have si : seqIndex? (n : Int) (l.map U.d).length = some n := by
        unfold seqIndex?
        simp [hn]
        omega
      refine ⟨p, _, _, n, .d l[n], rfl, rfl, put_same, by omega, by omega, si, ?_, by omega, ?_⟩
      · simp [hn]
      · rw [put_put]
        have e3 : ((l.map U.d).eraseIdx n) = (l.eraseIdx n).map U.d := era_map U.d l n
        rw [e3]
        refine hN _ _ ⟨l.eraseIdx n, a ++ [l[n]], by simp, rfl, ?_, by simp [h4]⟩
        refine .trans ?_ h3
        rw [List.append_assoc]
        refine .append_left a ?_
        exact era_perm l n hn
    · subst h1 h2
      have hl := h3.length_eq
      have e3 : a.length = xs.length := by simpa using h4
      rw [List.length_append] at hl
      have e4 : l = [] := List.length_eq_zero_iff.mp (by omega)
      subst e4
      rw [List.append_nil] at h3
      refine ⟨a, rfl, rtD p (rtE ?_)⟩
      rw [del_put hp]
      exact q a h3)
/-! ### the settings, a condition by its truths -/
def st (mk : Nat → Str) (T : List Lot) : List PyData := T.map fun l => .tuple (sl (l.map mk))
theorem st_len {mk : Nat → Str} {T : List Lot} : (st mk T).length = T.length := List.length_map _
def S_gs : WF := fun us μ Q => ∃ (mk : Nat → Str) (ms : List Nat), us = [.d (.list (sl (ms.map mk)))] ∧ Up ms ∧ ms.length ≤ 6 ∧ Q (.d (.list (st mk (setL ms)))) μ
theorem gs_ok (D : Dn K mg "_law_gd_settings" s_l_gd_settings) (m1 : mg "len" = none) (m2 : mg "range" = none) : C8.Cal P w K mg base 1 "_law_gd_settings" (sp3 K S_gs) [] :=
  cal_l_gd_settings D (m_len := m1) (m_range := m2) (len := fun us μ Q ⟨_, _, e, _⟩ => by rw [e]; rfl) (h := fun us μ Q ⟨mk, ms, e, hm, m6, q⟩ => by
    subst e
    have big : 1000 < sizeLine := by decide
    simp [wSeq, wIfS, wRet, wRetN, wNext, wDrop, wAsg, wAug, wBreak, wCont, wV, wC, wB, L3.wTru, L3.wNot, wAnd, wOr, wAndV, wOrV, wNotV, L3.wIf, wNeg, wOp, wCall, wQ, wML, wNil, wCons, wTup, wLst, wLstM, wIsi, wSl, wPart, wNoPart, wMinD, wJoin, wFrz, gN, sIx, sIs, sIsN, sI, sI0, truU, tyOk, tyU, isTruth, L3.isNon, itemsU, listU, ixU, qInt, qAbs, qStr, L3.max_int, start3, L3.kk_nb, L3.kk_nt, L3.kk_ni, L3.kk_ns, L3.kk_nl, L3.kk_bb, L3.kk_bt, L3.kk_bi, L3.kk_bs, L3.kk_bl, L3.kk_ib, L3.kk_it, L3.kk_ii, L3.kk_is, L3.kk_il, L3.kk_sb, L3.kk_st, L3.kk_si, L3.kk_ss, L3.kk_sl, L3.kk_tb, L3.kk_tt, L3.kk_ti, L3.kk_ts, L3.kk_tl, L3.kk_lb, L3.kk_lt, L3.kk_li, L3.kk_ls, L3.kk_ll, L3.at_0, L3.at_1, L3.at_2, L3.at_3, L3.eqA_int, L3.eqA_str, L3.eqA_bl, L3.lt_int, L3.gt_int, L3.le_int, L3.ge_int, L3.lt_str, L3.gt_str, L3.le_str, L3.ge_str, L3.add_int, L3.add_str, L3.exd, L3.exd0, L3.exd1, L3.exd2, L3.exd3, L3.exd4, L3.min_int, L3.min_str, L3.len_str, L3.len_lst, L3.len_tup, W_l_gd_settings, wFor, jSeq]
    refine ⟨by decide, ?_⟩
    refine forGo_inv (fun j ρ μ' => ∃ x : Option U, ρ = [some (.d (.list (sl (ms.map mk)))), some (.d (.list (st mk (setL (ms.take j))))), x, none] ∧ μ' = μ) ⟨none, rfl, rfl⟩ (fun _ _ _ _ => trivial) (fun j hj ρ μ' N ⟨x, h1, h2⟩ hN => ?_) (fun ρ μ' ⟨x, h1, h2⟩ => ?_)
    · subst h1 h2
      have hj : j < ms.length := by simpa [sl_len] using hj
      have hx : ((sl (ms.map mk)).map U.d)[j] = .d (.str (mk ms[j])) := by simp [sl]
      rw [hx]
      have al : setL (ms.take (j + 1)) = dbl (setL (ms.take j)) ms[j] := by
        rw [List.take_succ_eq_append_getElem hj, setL_snoc]
      have ln := setL_len (ms := ms.take j)
      rw [List.length_take] at ln
      have p6 : 2 ^ min j ms.length ≤ 2 ^ 6 := Nat.pow_le_pow_right (by decide) (by omega)
      have sb : ∀ l ∈ setL (ms.take j), l.length ≤ 6 := fun l hl => by
        have := ((setL_mem (hm.sub (List.take_sublist _ _))).mp hl).length_le
        rw [List.length_take] at this
        omega
      generalize setL (ms.take j) = A at *
      generalize ms[j] = m at *
      simp [wSeq, wIfS, wRet, wRetN, wNext, wDrop, wAsg, wAug, wBreak, wCont, wV, wC, wB, L3.wTru, L3.wNot, wAnd, wOr, wAndV, wOrV, wNotV, L3.wIf, wNeg, wOp, wCall, wQ, wML, wNil, wCons, wTup, wLst, wLstM, wIsi, wSl, wPart, wNoPart, wMinD, wJoin, wFrz, gN, sIx, sIs, sIsN, sI, sI0, truU, tyOk, tyU, isTruth, L3.isNon, itemsU, listU, ixU, qInt, qAbs, qStr, L3.max_int, start3, L3.kk_nb, L3.kk_nt, L3.kk_ni, L3.kk_ns, L3.kk_nl, L3.kk_bb, L3.kk_bt, L3.kk_bi, L3.kk_bs, L3.kk_bl, L3.kk_ib, L3.kk_it, L3.kk_ii, L3.kk_is, L3.kk_il, L3.kk_sb, L3.kk_st, L3.kk_si, L3.kk_ss, L3.kk_sl, L3.kk_tb, L3.kk_tt, L3.kk_ti, L3.kk_ts, L3.kk_tl, L3.kk_lb, L3.kk_lt, L3.kk_li, L3.kk_ls, L3.kk_ll, L3.at_0, L3.at_1, L3.at_2, L3.at_3, L3.eqA_int, L3.eqA_str, L3.eqA_bl, L3.lt_int, L3.gt_int, L3.le_int, L3.ge_int, L3.lt_str, L3.gt_str, L3.le_str, L3.ge_str, L3.add_int, L3.add_str, L3.exd, L3.exd0, L3.exd1, L3.exd2, L3.exd3, L3.exd4, L3.min_int, L3.min_str, L3.len_str, L3.len_lst, L3.len_tup, wLc, jRng1, wipeR, st_len, CMul]
      have tn : (2 * (A.length : Int)).toNat = 2 * A.length := by omega
      rw [tn]
      refine ⟨by omega, by omega, lc_map (fun k => .tuple (sl (((dbl A m).getD k []).map mk))) (by rw [rng_len]; omega) trivial (fun k hk N' hN' => ?_) ?_⟩
      · have hk : k < 2 * A.length := by simpa using hk
        rw [rng_get (n := 2 * A.length) (by rw [rng_len]; exact hk)]
        have dg : (dbl A m).getD k [] = A.getD (k / 2) [] ++ if k % 2 = 1 then [m] else [] := by
          rw [List.getD_eq_getElem?_getD, dbl_get hk]
          rfl
        rw [dg] at hN'
        have k2 : k / 2 < A.length := by omega
        have ga : A.getD (k / 2) [] = A[k / 2] := by rw [List.getD_eq_getElem?_getD, List.getElem?_eq_getElem k2]; rfl
        rw [ga] at hN'
        have ix : atI ((st mk A).map U.d) ((k / 2 : Nat) : Int) = some (.d (.tuple (sl (A[k / 2].map mk)))) := by
          rw [L3.at_n (by rw [List.length_map, st_len]; exact k2)]
          simp [st]
        have l6 := sb A[k / 2] (List.getElem_mem k2)
        generalize A[k / 2] = a at ix l6 hN'
        have fd : ((k : Nat) : Int).fdiv 2 = ((k / 2 : Nat) : Int) := fdiv_nat k 2
        have md : ((k : Nat) : Int) % 2 = ((k % 2 : Nat) : Int) := rfl
        simp [wSeq, wIfS, wRet, wRetN, wNext, wDrop, wAsg, wAug, wBreak, wCont, wV, wC, wB, L3.wTru, L3.wNot, wAnd, wOr, wAndV, wOrV, wNotV, L3.wIf, wNeg, wOp, wCall, wQ, wML, wNil, wCons, wTup, wLst, wLstM, wIsi, wSl, wPart, wNoPart, wMinD, wJoin, wFrz, gN, sIx, sIs, sIsN, sI, sI0, truU, tyOk, tyU, isTruth, L3.isNon, itemsU, listU, ixU, qInt, qAbs, qStr, L3.max_int, start3, L3.kk_nb, L3.kk_nt, L3.kk_ni, L3.kk_ns, L3.kk_nl, L3.kk_bb, L3.kk_bt, L3.kk_bi, L3.kk_bs, L3.kk_bl, L3.kk_ib, L3.kk_it, L3.kk_ii, L3.kk_is, L3.kk_il, L3.kk_sb, L3.kk_st, L3.kk_si, L3.kk_ss, L3.kk_sl, L3.kk_tb, L3.kk_tt, L3.kk_ti, L3.kk_ts, L3.kk_tl, L3.kk_lb, L3.kk_lt, L3.kk_li, L3.kk_ls, L3.kk_ll, L3.at_0, L3.at_1, L3.at_2, L3.at_3, L3.eqA_int, L3.eqA_str, L3.eqA_bl, L3.lt_int, L3.gt_int, L3.le_int, L3.ge_int, L3.lt_str, L3.gt_str, L3.le_str, L3.ge_str, L3.add_int, L3.add_str, L3.exd, L3.exd0, L3.exd1, L3.exd2, L3.exd3, L3.exd4, L3.min_int, L3.min_str, L3.len_str, L3.len_lst, L3.len_tup, CDivN]
        rw [fd, md]
        refine ⟨_, ix, L3.sl0 (by decide), L3.sl0 (by decide), ?_⟩
        by_cases c : k % 2 = 1
        · rw [c]
          rw [if_pos c] at hN'
          refine ⟨_, L3.at_1, _, _, rfl, rfl, ?_, ?_⟩
          · simp [sl]; exact L3.sl0 (by omega)
          · have e1 : sl (a.map mk) ++ [PyData.str (mk m)] = sl ((a ++ [m]).map mk) := by simp [sl]
            rw [e1]
            exact hN'
        · have c0 : k % 2 = 0 := by omega
          rw [c0]
          rw [if_neg c, List.append_nil] at hN'
          refine ⟨_, L3.at_0, _, _, rfl, rfl, ?_, ?_⟩
          · simp [sl]; exact L3.sl0 (by omega)
          · rw [List.append_nil]
            exact hN'
      · have e1 : ((List.range ((List.range (2 * A.length)).map fun i : Nat => U.d (.int (i : Int))).length).map fun k => PyData.tuple (sl (((dbl A m).getD k []).map mk))) = st mk (dbl A m) := by
          rw [rng_len]
          refine List.ext_getElem (by simp [st, dbl_len]) fun i h1 h2 => ?_
          have hi : i < (dbl A m).length := by simpa [st] using h2
          simp [st, hi]
        rw [e1]
        refine ⟨_, rfl, hN _ _ ⟨_, by rw [al], rfl⟩⟩
    · subst h1 h2
      rw [List.length_map, sl_len, List.length_map, List.take_length]
      simp [wSeq, wIfS, wRet, wRetN, wNext, wDrop, wAsg, wAug, wBreak, wCont, wV, wC, wB, L3.wTru, L3.wNot, wAnd, wOr, wAndV, wOrV, wNotV, L3.wIf, wNeg, wOp, wCall, wQ, wML, wNil, wCons, wTup, wLst, wLstM, wIsi, wSl, wPart, wNoPart, wMinD, wJoin, wFrz, gN, sIx, sIs, sIsN, sI, sI0, truU, tyOk, tyU, isTruth, L3.isNon, itemsU, listU, ixU, qInt, qAbs, qStr, L3.max_int, start3, L3.kk_nb, L3.kk_nt, L3.kk_ni, L3.kk_ns, L3.kk_nl, L3.kk_bb, L3.kk_bt, L3.kk_bi, L3.kk_bs, L3.kk_bl, L3.kk_ib, L3.kk_it, L3.kk_ii, L3.kk_is, L3.kk_il, L3.kk_sb, L3.kk_st, L3.kk_si, L3.kk_ss, L3.kk_sl, L3.kk_tb, L3.kk_tt, L3.kk_ti, L3.kk_ts, L3.kk_tl, L3.kk_lb, L3.kk_lt, L3.kk_li, L3.kk_ls, L3.kk_ll, L3.at_0, L3.at_1, L3.at_2, L3.at_3, L3.eqA_int, L3.eqA_str, L3.eqA_bl, L3.lt_int, L3.gt_int, L3.le_int, L3.ge_int, L3.lt_str, L3.gt_str, L3.le_str, L3.ge_str, L3.add_int, L3.add_str, L3.exd, L3.exd0, L3.exd1, L3.exd2, L3.exd3, L3.exd4, L3.min_int, L3.min_str, L3.len_str, L3.len_lst, L3.len_tup]
      exact rtE q)
def S_gg (n : Nat) : WF := fun us μ Q => ∃ (names : List Str) (row : List Bool), us = [.d (.list (bl row)), .d (.list (sl names))] ∧ names.length ≤ n ∧ row.length = 2 ^ names.length ∧ n ≤ 20 ∧ (∀ x ∈ names, PyData.strOk x = true) ∧ Q (.d (form names row).d) μ
theorem len_gg {n : Nat} : ∀ us μ Q, S_gg n us μ Q → us.length = 2 := fun us μ Q ⟨_, _, e, _⟩ => by rw [e]; rfl
theorem gg_ok (D : Dn K mg "_law_gd_grown" s_l_gd_grown) (m2 : mg "len" = none) : ∀ n, C8.Cal P w K mg base (n + 1) "_law_gd_grown" (sp3 K (S_gg n)) []
  | 0 => cal_l_gd_grown D (c_l_gd_grown := z_l_gd_grown D) (h_l_gd_grown := Nat.le_refl _) (m_len := m2) (len := len_gg) (h := fun us μ Q ⟨names, row, e, h1, h2, h3, h4, q⟩ => by
    subst e
    have h1 := List.length_eq_zero_iff.mp (Nat.le_zero.mp h1)
    subst h1
    have h2 : row.length = 1 := h2
    match row, h2 with
    | [b], _ =>
      simp [wSeq, wIfS, wRet, wRetN, wNext, wDrop, wAsg, wAug, wBreak, wCont, wV, wC, wB, L3.wTru, L3.wNot, wAnd, wOr, wAndV, wOrV, wNotV, L3.wIf, wNeg, wOp, wCall, wQ, wML, wNil, wCons, wTup, wLst, wLstM, wIsi, wSl, wPart, wNoPart, wMinD, wJoin, wFrz, gN, sIx, sIs, sIsN, sI, sI0, truU, tyOk, tyU, isTruth, L3.isNon, itemsU, listU, ixU, qInt, qAbs, qStr, L3.max_int, start3, L3.kk_nb, L3.kk_nt, L3.kk_ni, L3.kk_ns, L3.kk_nl, L3.kk_bb, L3.kk_bt, L3.kk_bi, L3.kk_bs, L3.kk_bl, L3.kk_ib, L3.kk_it, L3.kk_ii, L3.kk_is, L3.kk_il, L3.kk_sb, L3.kk_st, L3.kk_si, L3.kk_ss, L3.kk_sl, L3.kk_tb, L3.kk_tt, L3.kk_ti, L3.kk_ts, L3.kk_tl, L3.kk_lb, L3.kk_lt, L3.kk_li, L3.kk_ls, L3.kk_ll, L3.at_0, L3.at_1, L3.at_2, L3.at_3, L3.eqA_int, L3.eqA_str, L3.eqA_bl, L3.lt_int, L3.gt_int, L3.le_int, L3.ge_int, L3.lt_str, L3.gt_str, L3.le_str, L3.ge_str, L3.add_int, L3.add_str, L3.exd, L3.exd0, L3.exd1, L3.exd2, L3.exd3, L3.exd4, L3.min_int, L3.min_str, L3.len_str, L3.len_lst, L3.len_tup, W_l_gd_grown, sl, bl]
      exact rtE q)
  | n + 1 => cal_l_gd_grown D (c_l_gd_grown := gg_ok D m2 n) (h_l_gd_grown := Nat.le_refl _) (m_len := m2) (len := len_gg) (h := fun us μ Q ⟨names, row, e, h1, h2, h3, h4, q⟩ => by
    subst e
    match names, h1 with
    | [], _ =>
      have h2 : row.length = 1 := h2
      match row, h2 with
      | [b], _ =>
        simp [wSeq, wIfS, wRet, wRetN, wNext, wDrop, wAsg, wAug, wBreak, wCont, wV, wC, wB, L3.wTru, L3.wNot, wAnd, wOr, wAndV, wOrV, wNotV, L3.wIf, wNeg, wOp, wCall, wQ, wML, wNil, wCons, wTup, wLst, wLstM, wIsi, wSl, wPart, wNoPart, wMinD, wJoin, wFrz, gN, sIx, sIs, sIsN, sI, sI0, truU, tyOk, tyU, isTruth, L3.isNon, itemsU, listU, ixU, qInt, qAbs, qStr, L3.max_int, start3, L3.kk_nb, L3.kk_nt, L3.kk_ni, L3.kk_ns, L3.kk_nl, L3.kk_bb, L3.kk_bt, L3.kk_bi, L3.kk_bs, L3.kk_bl, L3.kk_ib, L3.kk_it, L3.kk_ii, L3.kk_is, L3.kk_il, L3.kk_sb, L3.kk_st, L3.kk_si, L3.kk_ss, L3.kk_sl, L3.kk_tb, L3.kk_tt, L3.kk_ti, L3.kk_ts, L3.kk_tl, L3.kk_lb, L3.kk_lt, L3.kk_li, L3.kk_ls, L3.kk_ll, L3.at_0, L3.at_1, L3.at_2, L3.at_3, L3.eqA_int, L3.eqA_str, L3.eqA_bl, L3.lt_int, L3.gt_int, L3.le_int, L3.ge_int, L3.lt_str, L3.gt_str, L3.le_str, L3.ge_str, L3.add_int, L3.add_str, L3.exd, L3.exd0, L3.exd1, L3.exd2, L3.exd3, L3.exd4, L3.min_int, L3.min_str, L3.len_str, L3.len_lst, L3.len_tup, W_l_gd_grown, sl, bl]
        exact rtE q
    | x :: xs, h1 =>
      have h1 : xs.length ≤ n := by simpa using h1
      have hr : row.length = 2 ^ xs.length + 2 ^ xs.length := by rw [h2, List.length_cons, Nat.pow_succ]; omega
      have po : 1 ≤ 2 ^ xs.length := Nat.one_le_two_pow
      have half : ((row.length : Nat) : Int).fdiv 2 = ((row.length / 2 : Nat) : Int) := fdiv_nat _ 2
      have hv : row.length / 2 = 2 ^ xs.length := by omega
      have ok : ∀ y ∈ xs, PyData.strOk y = true := fun y hy => h4 y (List.mem_cons_of_mem _ hy)
      have c1 : cutL (sl (x :: xs)) (some 1) none = sl xs := cut_drop (xs := sl (x :: xs)) (k := 1) (by simp [sl])
      have c2 : cutL (bl row) none (some ((row.length / 2 : Nat) : Int)) = bl (row.take (row.length / 2)) := by
        rw [cut_take (by rw [bl_len]; omega)]
        simp [bl]
      have c3 : cutL (bl row) (some ((row.length / 2 : Nat) : Int)) none = bl (row.drop (row.length / 2)) := by
        rw [cut_drop (by rw [bl_len]; omega)]
        simp [bl]
      have c4 : atI ((sl (x :: xs)).map U.d) 0 = some (.d (.str x)) := L3.at_0
      have c5 : ¬ row.length = 1 := by omega
      have c5' : ¬ (row.length : Int) = 1 := by omega
      generalize hL : row.length / 2 = L at *
      generalize hN : sl (x :: xs) = N at *
      simp [wSeq, wIfS, wRet, wRetN, wNext, wDrop, wAsg, wAug, wBreak, wCont, wV, wC, wB, L3.wTru, L3.wNot, wAnd, wOr, wAndV, wOrV, wNotV, L3.wIf, wNeg, wOp, wCall, wQ, wML, wNil, wCons, wTup, wLst, wLstM, wIsi, wSl, wPart, wNoPart, wMinD, wJoin, wFrz, gN, sIx, sIs, sIsN, sI, sI0, truU, tyOk, tyU, isTruth, L3.isNon, itemsU, listU, ixU, qInt, qAbs, qStr, L3.max_int, start3, L3.kk_nb, L3.kk_nt, L3.kk_ni, L3.kk_ns, L3.kk_nl, L3.kk_bb, L3.kk_bt, L3.kk_bi, L3.kk_bs, L3.kk_bl, L3.kk_ib, L3.kk_it, L3.kk_ii, L3.kk_is, L3.kk_il, L3.kk_sb, L3.kk_st, L3.kk_si, L3.kk_ss, L3.kk_sl, L3.kk_tb, L3.kk_tt, L3.kk_ti, L3.kk_ts, L3.kk_tl, L3.kk_lb, L3.kk_lt, L3.kk_li, L3.kk_ls, L3.kk_ll, L3.at_0, L3.at_1, L3.at_2, L3.at_3, L3.eqA_int, L3.eqA_str, L3.eqA_bl, L3.lt_int, L3.gt_int, L3.le_int, L3.ge_int, L3.lt_str, L3.gt_str, L3.le_str, L3.ge_str, L3.add_int, L3.add_str, L3.exd, L3.exd0, L3.exd1, L3.exd2, L3.exd3, L3.exd4, L3.min_int, L3.min_str, L3.len_str, L3.len_lst, L3.len_tup, W_l_gd_grown, bl_len, CDivN, half, c1, c2, c3, c4, c5, c5', wPar]
      have k1 := form_h (names := xs) (row := row.drop L)
      have k2 := form_h (names := xs) (row := row.take L)
      refine ⟨xs, _, rfl, h1, by rw [List.length_take]; omega, by omega, ok, ?_⟩
      refine ⟨xs, _, rfl, h1, by rw [List.length_drop]; omega, by omega, ok, ?_⟩
      refine ⟨_, _, ⟨rfl, rfl⟩, ?_⟩
      refine eqA_T (form_nm ok) (form_nm ok) (by omega) (by omega) (fun e => .inr ⟨rfl, rtE ?_⟩) fun e => .inl ⟨rfl, ?_⟩
      · rw [show form (x :: xs) row = node x (form xs (row.drop (row.length / 2))) (form xs (row.take (row.length / 2))) from rfl, hL, node_eq e] at q
        exact q
      · rw [show form (x :: xs) row = node x (form xs (row.drop (row.length / 2))) (form xs (row.take (row.length / 2))) from rfl, hL, node_ne e] at q
        exact ⟨[.str x, (form xs (row.drop L)).d, (form xs (row.take L)).d], rfl, L3.sl0 (by simp), rtE q⟩)
end
end K57

namespace K57
open PySem PySem.Spec PyProof.Rows L2 L3 Cn Lt
section
variable {P : Program} {w : World} {K : Fg} {mg : Str → Option Value} {base : Heap}
def S_pk : WF := fun us μ Q => ∃ (h : Addr) (xs : List PyData), us = [.r h, .d (.list xs)] ∧ μ h = some .hand ∧ 1 ≤ xs.length ∧ xs.length ≤ 1000 ∧ ∀ x ∈ xs, Q (.d x) μ
theorem pick_ok (D : Dn K mg "_law_pick" s_l_pick) (D1 : Dn K mg "_law_take" s_l_take) (D2 : Dn K mg "_law_stirred" s_l_stirred) (m1 : mg "int" = none) (m2 : mg "len" = none) : C8.Cal P w K mg base 3 "_law_pick" (sp3 K S_pk) [] :=
  cal_l_pick D (c_l_take := take_ok D1 D2 m1 m2) (h_l_take := Nat.le_refl _) (m_len := m2) (len := fun us μ Q ⟨_, _, e, _⟩ => by rw [e]; rfl) (h := fun us μ Q ⟨h, xs, e, hh, h1, h2, q⟩ => by
    subst e
    have big : 1000 < sizeLine := by decide
    simp [wSeq, wIfS, wRet, wRetN, wNext, wDrop, wAsg, wAug, wBreak, wCont, wV, wC, wB, L3.wTru, L3.wNot, wAnd, wOr, wAndV, wOrV, wNotV, L3.wIf, wNeg, wOp, wCall, wQ, wML, wNil, wCons, wTup, wLst, wLstM, wIsi, wSl, wPart, wNoPart, wMinD, wJoin, wFrz, gN, sIx, sIs, sIsN, sI, sI0, truU, tyOk, tyU, isTruth, L3.isNon, itemsU, listU, ixU, qInt, qAbs, qStr, L3.max_int, start3, L3.kk_nb, L3.kk_nt, L3.kk_ni, L3.kk_ns, L3.kk_nl, L3.kk_bb, L3.kk_bt, L3.kk_bi, L3.kk_bs, L3.kk_bl, L3.kk_ib, L3.kk_it, L3.kk_ii, L3.kk_is, L3.kk_il, L3.kk_sb, L3.kk_st, L3.kk_si, L3.kk_ss, L3.kk_sl, L3.kk_tb, L3.kk_tt, L3.kk_ti, L3.kk_ts, L3.kk_tl, L3.kk_lb, L3.kk_lt, L3.kk_li, L3.kk_ls, L3.kk_ll, L3.at_0, L3.at_1, L3.at_2, L3.at_3, L3.eqA_int, L3.eqA_str, L3.eqA_bl, L3.lt_int, L3.gt_int, L3.le_int, L3.ge_int, L3.lt_str, L3.gt_str, L3.le_str, L3.ge_str, L3.add_int, L3.add_str, L3.exd, L3.exd0, L3.exd1, L3.exd2, L3.exd3, L3.exd4, L3.min_int, L3.min_str, L3.len_str, L3.len_lst, L3.len_tup, W_l_pick]
    refine ⟨h, _, rfl, hh, by omega, by omega, fun z z1 z2 => ?_⟩
    obtain ⟨z, rfl⟩ := Int.eq_ofNat_of_zero_le z1
    have z2 : z < xs.length := by omega
    have ix : atI (xs.map U.d) ((z : Nat) : Int) = some (.d xs[z]) := by
      rw [L3.at_n (by rw [List.length_map]; exact z2)]
      simp
    simp [wSeq, wIfS, wRet, wRetN, wNext, wDrop, wAsg, wAug, wBreak, wCont, wV, wC, wB, L3.wTru, L3.wNot, wAnd, wOr, wAndV, wOrV, wNotV, L3.wIf, wNeg, wOp, wCall, wQ, wML, wNil, wCons, wTup, wLst, wLstM, wIsi, wSl, wPart, wNoPart, wMinD, wJoin, wFrz, gN, sIx, sIs, sIsN, sI, sI0, truU, tyOk, tyU, isTruth, L3.isNon, itemsU, listU, ixU, qInt, qAbs, qStr, L3.max_int, start3, L3.kk_nb, L3.kk_nt, L3.kk_ni, L3.kk_ns, L3.kk_nl, L3.kk_bb, L3.kk_bt, L3.kk_bi, L3.kk_bs, L3.kk_bl, L3.kk_ib, L3.kk_it, L3.kk_ii, L3.kk_is, L3.kk_il, L3.kk_sb, L3.kk_st, L3.kk_si, L3.kk_ss, L3.kk_sl, L3.kk_tb, L3.kk_tt, L3.kk_ti, L3.kk_ts, L3.kk_tl, L3.kk_lb, L3.kk_lt, L3.kk_li, L3.kk_ls, L3.kk_ll, L3.at_0, L3.at_1, L3.at_2, L3.at_3, L3.eqA_int, L3.eqA_str, L3.eqA_bl, L3.lt_int, L3.gt_int, L3.le_int, L3.ge_int, L3.lt_str, L3.gt_str, L3.le_str, L3.ge_str, L3.add_int, L3.add_str, L3.exd, L3.exd0, L3.exd1, L3.exd2, L3.exd3, L3.exd4, L3.min_int, L3.min_str, L3.len_str, L3.len_lst, L3.len_tup]
    exact ⟨_, ix, rtE (q _ (List.getElem_mem z2))⟩)
/-! ### the table of the values -/
def ins (acc : List Nat) (v : Nat) : List Nat := if v ∈ acc then acc else acc ++ [v]
def firsts (vals : List Nat) : List Nat := vals.foldl ins []
theorem firsts_snoc {vals : List Nat} {v : Nat} : firsts (vals ++ [v]) = ins (firsts vals) v := by
  unfold firsts
  rw [List.foldl_append]
  rfl
theorem ins_mem {acc : List Nat} {v x : Nat} : x ∈ ins acc v ↔ x ∈ acc ∨ x = v := by
  unfold ins
  split
  · exact ⟨.inl, fun h => h.elim id fun e => by rw [e]; assumption⟩
  · rw [List.mem_append, List.mem_singleton]
theorem firsts_mem {vals : List Nat} {x : Nat} : x ∈ firsts vals ↔ x ∈ vals := by
  have go : ∀ (vals acc : List Nat), x ∈ vals.foldl ins acc ↔ x ∈ acc ∨ x ∈ vals := fun vals => by
    induction vals with
    | nil => intro acc; simp
    | cons v vals ih =>
      intro acc
      show x ∈ vals.foldl ins (ins acc v) ↔ _
      rw [ih, ins_mem, List.mem_cons, or_assoc]
  exact (go vals []).trans (by simp)
theorem firsts_len {vals : List Nat} : (firsts vals).length ≤ vals.length := by
  have go : ∀ (vals acc : List Nat), (vals.foldl ins acc).length ≤ acc.length + vals.length := fun vals => by
    induction vals with
    | nil => intro acc; simp
    | cons v vals ih =>
      intro acc
      have := ih (ins acc v)
      have l : (ins acc v).length ≤ acc.length + 1 := by unfold ins; split <;> simp
      show (vals.foldl ins (ins acc v)).length ≤ _
      rw [List.length_cons]
      omega
  have := go vals []
  rw [List.length_nil, Nat.zero_add] at this
  exact this
def rw1 (vals : List Nat) (v : Nat) : List Bool × Nat := (vals.map fun x => decide (x = v), v)
def rowsOf (vals : List Nat) : List (List Bool × Nat) := (firsts vals).map (rw1 vals)
theorem ots_lay : ∀ {fs : List Nat}, (∀ v ∈ fs, v < 7) → PyData.canLayAll0 (fs.map ot) = true ∧ PyData.depthAll (fs.map ot) ≤ 2
  | [], _ => by simp [PyData.canLayAll0, PyData.depthAll]
  | v :: fs, h => by
    have ih := ots_lay (fs := fs) fun x hx => h x (List.mem_cons_of_mem _ hx)
    obtain ⟨_, h2, h3⟩ := ot_shp v (h v (List.mem_cons_self ..))
    simp only [List.map_cons, PyData.canLayAll0, PyData.depthAll, h2, ih.1]
    exact ⟨rfl, Nat.max_le.mpr ⟨h3, ih.2⟩⟩
theorem ots_shp {fs : List Nat} (h : ∀ v ∈ fs, v < 7) : SeqAt.shaped (.list (fs.map ot)) = true := by
  have l := ots_lay h
  simp only [SeqAt.shaped, PyData.canLay0, PyData.depth, l.1, Bool.true_and]
  exact decide_eq_true (by omega)
theorem ots_in {fs : List Nat} {v : Nat} (h : ∀ x ∈ fs, x < 7) (hv : v < 7) : ((fs.map ot).any fun z => PyData.eqv z (ot v)) = decide (v ∈ fs) := by
  rw [List.any_map, Bool.eq_iff_iff, List.any_eq_true, decide_eq_true_iff]
  constructor
  · rintro ⟨x, hx, e⟩
    have e : PyData.eqv (ot x) (ot v) = true := e
    rw [ot_eq x (h x hx) v hv] at e
    rw [← of_decide_eq_true e]
    exact hx
  · intro hx
    exact ⟨v, hx, by show PyData.eqv (ot v) (ot v) = true; rw [ot_eq v hv v hv]; exact decide_eq_true rfl⟩
def S_gt : WF := fun us μ Q => ∃ (names : List Str) (vals : List Nat), us = [.d (.list (vals.map ot)), .d (.list (sl names))] ∧ names.length ≤ 5 ∧ (∀ x ∈ names, PyData.strOk x = true) ∧ vals.length = 2 ^ names.length ∧ (∀ v ∈ vals, v < 7) ∧
  Q (.d (.tuple (tbl names (rowsOf vals)))) μ
theorem gt_ok (D : Dn K mg "_law_gd_table" s_l_gd_table) (D1 : Dn K mg "_law_gd_grown" s_l_gd_grown) (m1 : mg "tuple" = none) (m2 : mg "len" = none) : C8.Cal P w K mg base 7 "_law_gd_table" (sp3 K S_gt) [] :=
  cal_l_gd_table D (c_l_gd_grown := gg_ok D1 m2 5) (h_l_gd_grown := Nat.le_refl _) (m_tuple := m1) (len := fun us μ Q ⟨_, _, e, _⟩ => by rw [e]; rfl) (h := fun us μ Q ⟨names, vals, e, n5, ok, hl, v7, q⟩ => by
    subst e
    have big : 1000 < sizeLine := by decide
    have p5 : 2 ^ names.length ≤ 2 ^ 5 := Nat.pow_le_pow_right (by decide) n5
    simp [wSeq, wIfS, wRet, wRetN, wNext, wDrop, wAsg, wAug, wBreak, wCont, wV, wC, wB, L3.wTru, L3.wNot, wAnd, wOr, wAndV, wOrV, wNotV, L3.wIf, wNeg, wOp, wCall, wQ, wML, wNil, wCons, wTup, wLst, wLstM, wIsi, wSl, wPart, wNoPart, wMinD, wJoin, wFrz, gN, sIx, sIs, sIsN, sI, sI0, truU, tyOk, tyU, isTruth, L3.isNon, itemsU, listU, ixU, qInt, qAbs, qStr, L3.max_int, start3, L3.kk_nb, L3.kk_nt, L3.kk_ni, L3.kk_ns, L3.kk_nl, L3.kk_bb, L3.kk_bt, L3.kk_bi, L3.kk_bs, L3.kk_bl, L3.kk_ib, L3.kk_it, L3.kk_ii, L3.kk_is, L3.kk_il, L3.kk_sb, L3.kk_st, L3.kk_si, L3.kk_ss, L3.kk_sl, L3.kk_tb, L3.kk_tt, L3.kk_ti, L3.kk_ts, L3.kk_tl, L3.kk_lb, L3.kk_lt, L3.kk_li, L3.kk_ls, L3.kk_ll, L3.at_0, L3.at_1, L3.at_2, L3.at_3, L3.eqA_int, L3.eqA_str, L3.eqA_bl, L3.lt_int, L3.gt_int, L3.le_int, L3.ge_int, L3.lt_str, L3.gt_str, L3.le_str, L3.ge_str, L3.add_int, L3.add_str, L3.exd, L3.exd0, L3.exd1, L3.exd2, L3.exd3, L3.exd4, L3.min_int, L3.min_str, L3.len_str, L3.len_lst, L3.len_tup, W_l_gd_table, wFor, jSeq, wPar]
    intro p hp s hs
    have sp : s ≠ p := fun e => by
      subst e
      rw [put_same] at hs
      cases hs
    rw [put_ne sp] at hs
    refine ⟨_, _, ⟨rfl, rfl⟩, ?_⟩
    have cm : ∀ {A B A' : MO}, put (put (put μ p A) s B) p A' = put (put μ p A') s B := fun {A B A'} => by
      rw [put_comm sp, put_put]
    refine forGo_inv (fun j ρ μ' => ∃ x y : Option U, ρ = [some (.d (.list (vals.map ot))), some (.d (.list (sl names))), x, some (.r p), some (.r s), y] ∧
      μ' = put (put μ p (.lst (((firsts (vals.take j)).map ot).map U.d))) s (.lst ((tbl names ((firsts (vals.take j)).map (rw1 vals))).map U.d))) ⟨none, none, rfl, rfl⟩ (fun _ _ _ _ => trivial) (fun j hj ρ μ' N ⟨x, y, h1, h2⟩ hN => ?_) (fun ρ μ' ⟨x, y, h1, h2⟩ => ?_)
    · subst h1 h2
      have hj : j < vals.length := by simpa using hj
      have hx : (vals.map (U.d ∘ ot))[j]'(by simpa using hj) = .d (ot vals[j]) := by simp
      rw [hx]
      have hv := v7 _ (List.getElem_mem hj)
      have f7 : ∀ x ∈ firsts (vals.take j), x < 7 := fun x hx => v7 x (List.mem_of_mem_take (firsts_mem.mp hx))
      have fl := firsts_len (vals := vals.take j)
      rw [List.length_take] at fl
      have tk : firsts (vals.take (j + 1)) = ins (firsts (vals.take j)) vals[j] := by rw [List.take_succ_eq_append_getElem hj, firsts_snoc]
      generalize firsts (vals.take j) = fs at *
      generalize hvj : vals[j] = v at *
      obtain ⟨rest, er⟩ := ot_wd v
      have shv := (ot_shp v hv).1
      simp [wSeq, wIfS, wRet, wRetN, wNext, wDrop, wAsg, wAug, wBreak, wCont, wV, wC, wB, L3.wTru, L3.wNot, wAnd, wOr, wAndV, wOrV, wNotV, L3.wIf, wNeg, wOp, wCall, wQ, wML, wNil, wCons, wTup, wLst, wLstM, wIsi, wSl, wPart, wNoPart, wMinD, wJoin, wFrz, gN, sIx, sIs, sIsN, sI, sI0, truU, tyOk, tyU, isTruth, L3.isNon, itemsU, listU, ixU, qInt, qAbs, qStr, L3.max_int, start3, L3.kk_nb, L3.kk_nt, L3.kk_ni, L3.kk_ns, L3.kk_nl, L3.kk_bb, L3.kk_bt, L3.kk_bi, L3.kk_bs, L3.kk_bl, L3.kk_ib, L3.kk_it, L3.kk_ii, L3.kk_is, L3.kk_il, L3.kk_sb, L3.kk_st, L3.kk_si, L3.kk_ss, L3.kk_sl, L3.kk_tb, L3.kk_tt, L3.kk_ti, L3.kk_ts, L3.kk_tl, L3.kk_lb, L3.kk_lt, L3.kk_li, L3.kk_ls, L3.kk_ll, L3.at_0, L3.at_1, L3.at_2, L3.at_3, L3.eqA_int, L3.eqA_str, L3.eqA_bl, L3.lt_int, L3.gt_int, L3.le_int, L3.ge_int, L3.lt_str, L3.gt_str, L3.le_str, L3.ge_str, L3.add_int, L3.add_str, L3.exd, L3.exd0, L3.exd1, L3.exd2, L3.exd3, L3.exd4, L3.min_int, L3.min_str, L3.len_str, L3.len_lst, L3.len_tup]
      refine .inr ⟨by rw [er], ot v, fs.map ot, rfl, ?_, shv, ots_shp f7, ?_⟩
      · unfold listU
        simp only [put_ne sp.symm, put_same, List.map_map]
      rw [ots_in f7 hv]
      by_cases c : v ∈ fs
      · refine .inl ⟨by rw [decide_eq_true c]; rfl, hN _ _ ⟨_, _, rfl, ?_⟩⟩
        rw [tk]
        unfold ins
        rw [if_pos c, List.map_map]
      · have pp : put (put μ p (.lst (fs.map (U.d ∘ ot)))) s (.lst ((tbl names (fs.map (rw1 vals))).map U.d)) p = some (.lst (fs.map (U.d ∘ ot))) := by rw [put_ne sp.symm, put_same]
        refine .inr ⟨by rw [decide_eq_false c]; rfl, isL_r pp, append_r pp (by rw [List.length_map]; omega) ?_⟩
        rw [cm]
        refine ⟨isL_r put_same, ?_⟩
        simp [wSeq, wIfS, wRet, wRetN, wNext, wDrop, wAsg, wAug, wBreak, wCont, wV, wC, wB, L3.wTru, L3.wNot, wAnd, wOr, wAndV, wOrV, wNotV, L3.wIf, wNeg, wOp, wCall, wQ, wML, wNil, wCons, wTup, wLst, wLstM, wIsi, wSl, wPart, wNoPart, wMinD, wJoin, wFrz, gN, sIx, sIs, sIsN, sI, sI0, truU, tyOk, tyU, isTruth, L3.isNon, itemsU, listU, ixU, qInt, qAbs, qStr, L3.max_int, start3, L3.kk_nb, L3.kk_nt, L3.kk_ni, L3.kk_ns, L3.kk_nl, L3.kk_bb, L3.kk_bt, L3.kk_bi, L3.kk_bs, L3.kk_bl, L3.kk_ib, L3.kk_it, L3.kk_ii, L3.kk_is, L3.kk_il, L3.kk_sb, L3.kk_st, L3.kk_si, L3.kk_ss, L3.kk_sl, L3.kk_tb, L3.kk_tt, L3.kk_ti, L3.kk_ts, L3.kk_tl, L3.kk_lb, L3.kk_lt, L3.kk_li, L3.kk_ls, L3.kk_ll, L3.at_0, L3.at_1, L3.at_2, L3.at_3, L3.eqA_int, L3.eqA_str, L3.eqA_bl, L3.lt_int, L3.gt_int, L3.le_int, L3.ge_int, L3.lt_str, L3.gt_str, L3.le_str, L3.ge_str, L3.add_int, L3.add_str, L3.exd, L3.exd0, L3.exd1, L3.exd2, L3.exd3, L3.exd4, L3.min_int, L3.min_str, L3.len_str, L3.len_lst, L3.len_tup, wLc, jSeq]
        refine lc_map (fun i => .bool (decide (vals.getD i 0 = v))) (by rw [List.length_map]; omega) trivial (fun i hi N' hN' => ?_) ?_
        · have hi : i < vals.length := by simpa using hi
          have hxi : (vals.map (U.d ∘ ot))[i]'(by simpa using hi) = .d (ot vals[i]) := by simp
          have gi : vals.getD i 0 = vals[i] := by rw [List.getD_eq_getElem?_getD, List.getElem?_eq_getElem hi]; rfl
          rw [hxi]
          rw [gi] at hN'
          have h7 := v7 _ (List.getElem_mem hi)
          generalize vals[i] = u at *
          have sh := (ot_shp u h7).1
          have eq := ot_eq u h7 v hv
          obtain ⟨r2, er2⟩ := ot_wd u
          simp [wSeq, wIfS, wRet, wRetN, wNext, wDrop, wAsg, wAug, wBreak, wCont, wV, wC, wB, L3.wTru, L3.wNot, wAnd, wOr, wAndV, wOrV, wNotV, L3.wIf, wNeg, wOp, wCall, wQ, wML, wNil, wCons, wTup, wLst, wLstM, wIsi, wSl, wPart, wNoPart, wMinD, wJoin, wFrz, gN, sIx, sIs, sIsN, sI, sI0, truU, tyOk, tyU, isTruth, L3.isNon, itemsU, listU, ixU, qInt, qAbs, qStr, L3.max_int, start3, L3.kk_nb, L3.kk_nt, L3.kk_ni, L3.kk_ns, L3.kk_nl, L3.kk_bb, L3.kk_bt, L3.kk_bi, L3.kk_bs, L3.kk_bl, L3.kk_ib, L3.kk_it, L3.kk_ii, L3.kk_is, L3.kk_il, L3.kk_sb, L3.kk_st, L3.kk_si, L3.kk_ss, L3.kk_sl, L3.kk_tb, L3.kk_tt, L3.kk_ti, L3.kk_ts, L3.kk_tl, L3.kk_lb, L3.kk_lt, L3.kk_li, L3.kk_ls, L3.kk_ll, L3.at_0, L3.at_1, L3.at_2, L3.at_3, L3.eqA_int, L3.eqA_str, L3.eqA_bl, L3.lt_int, L3.gt_int, L3.le_int, L3.ge_int, L3.lt_str, L3.gt_str, L3.le_str, L3.ge_str, L3.add_int, L3.add_str, L3.exd, L3.exd0, L3.exd1, L3.exd2, L3.exd3, L3.exd4, L3.min_int, L3.min_str, L3.len_str, L3.len_lst, L3.len_tup, wipeR]
          have k : sEq id (U.d (ot u)) (U.d (ot v)) (put (put μ p (.lst (fs.map (U.d ∘ ot) ++ [U.d (ot v)]))) s (.lst ((tbl names (fs.map (rw1 vals))).map U.d))) N' := ⟨_, _, rfl, rfl, sh, shv, by rw [eq]; exact hN'⟩
          rw [er2] at k ⊢
          exact k
        · have e1 : ((List.range (vals.map (U.d ∘ ot)).length).map fun i => PyData.bool (decide (vals.getD i 0 = v))) = bl (rw1 vals v).1 := by
            rw [List.length_map]
            refine List.ext_getElem (by simp [bl, rw1]) fun i h1 h2 => ?_
            have hi : i < vals.length := by simpa [bl, rw1] using h2
            simp [bl, rw1, hi]
          rw [e1]
          refine ⟨_, rfl, names, (rw1 vals v).1, rfl, n5, by simpa [rw1] using hl, by decide, ok, [(form names (rw1 vals v).1).d, ot v], rfl, L3.sl0 (by simp), append_r put_same (by rw [List.length_map, tbl_len, List.length_map]; omega) ?_⟩
          rw [put_put]
          refine hN _ _ ⟨_, _, rfl, ?_⟩
          rw [tk]
          unfold ins
          rw [if_neg c]
          simp [tbl, rw1]
    · subst h1 h2
      rw [List.length_map, List.take_length]
      simp [wSeq, wIfS, wRet, wRetN, wNext, wDrop, wAsg, wAug, wBreak, wCont, wV, wC, wB, L3.wTru, L3.wNot, wAnd, wOr, wAndV, wOrV, wNotV, L3.wIf, wNeg, wOp, wCall, wQ, wML, wNil, wCons, wTup, wLst, wLstM, wIsi, wSl, wPart, wNoPart, wMinD, wJoin, wFrz, gN, sIx, sIs, sIsN, sI, sI0, truU, tyOk, tyU, isTruth, L3.isNon, itemsU, listU, ixU, qInt, qAbs, qStr, L3.max_int, start3, L3.kk_nb, L3.kk_nt, L3.kk_ni, L3.kk_ns, L3.kk_nl, L3.kk_bb, L3.kk_bt, L3.kk_bi, L3.kk_bs, L3.kk_bl, L3.kk_ib, L3.kk_it, L3.kk_ii, L3.kk_is, L3.kk_il, L3.kk_sb, L3.kk_st, L3.kk_si, L3.kk_ss, L3.kk_sl, L3.kk_tb, L3.kk_tt, L3.kk_ti, L3.kk_ts, L3.kk_tl, L3.kk_lb, L3.kk_lt, L3.kk_li, L3.kk_ls, L3.kk_ll, L3.at_0, L3.at_1, L3.at_2, L3.at_3, L3.eqA_int, L3.eqA_str, L3.eqA_bl, L3.lt_int, L3.gt_int, L3.le_int, L3.ge_int, L3.lt_str, L3.gt_str, L3.le_str, L3.ge_str, L3.add_int, L3.add_str, L3.exd, L3.exd0, L3.exd1, L3.exd2, L3.exd3, L3.exd4, L3.min_int, L3.min_str, L3.len_str, L3.len_lst, L3.len_tup]
      refine ⟨_, tbl names (rowsOf vals), rfl, ?_, ?_⟩
      · simp only [put_same, itemsU]
        rfl
      · refine rtD s (rtD p (rtE ?_))
        rw [del_put (by rw [put_ne sp]; exact hs), del_put hp]
        exact q)
end
end K57

namespace K57
open PySem PySem.Spec PyProof.Rows L2 L3 Cn Lt
/-! ### the switches -/
def AZ : Str := Str.ofString "ABCDEFGHIJKLMNOPQRSTUVWXYZABCDEFGHIJKLMNOPQRSTUVWXYZ"
theorem heads : ∀ z : Nat, z < 26 → ∀ m : Nat, m < 5 → (cutS AZ (some (z : Int)) (some ((z : Int) + (m : Int)))).cps.toList = (List.range m).map fun i => 65 + (z + i) % 26 := by decide +kernel
theorem az_len : AZ.length ≤ sizeLine := by decide
def suf (t : Nat) : Str := if t = 0 then Str.ofString "" else if t = 1 then Str.ofString "a" else Str.ofString "7"
def Hd (c : Nat) (x : Str) : Prop := x.cps.toList.head? = some c ∧ PyData.strOk x = true ∧ x.length ≤ 2
instance (c : Nat) (x : Str) : Decidable (Hd c x) := by unfold Hd; exact inferInstance
theorem hd_f : ∀ c : Nat, c < 26 → ∀ t : Nat, t < 3 → Hd (65 + c) ((⟨#[65 + c]⟩ : Str) ++ suf t) ∧ (⟨#[65 + c]⟩ : Str).length + (suf t).length ≤ sizeLine := by decide +kernel
theorem suf_at : ∀ t : Nat, t < 3 → atI [U.d (.str (Str.ofString "")), U.d (.str (Str.ofString "a")), U.d (.str (Str.ofString "7"))] (t : Int) = some (U.d (.str (suf t)))
  | 0, _ => rfl
  | 1, _ => rfl
  | 2, _ => rfl
section
variable {P : Program} {w : World} {K : Fg} {mg : Str → Option Value} {base : Heap}
def S_gw : WF := fun us μ Q => ∃ (h : Addr) (m : Nat), us = [.r h, .d (.int (m : Int))] ∧ μ h = some .hand ∧ 1 ≤ m ∧ m ≤ 4 ∧ ∀ names : List Str, names.length = m → Srt names → (∀ x ∈ names, PyData.strOk x = true) → Q (.d (.list (sl names))) μ
theorem gw_ok (D : Dn K mg "_law_gd_switches" s_l_gd_switches) (D1 : Dn K mg "_law_take" s_l_take) (D2 : Dn K mg "_law_stirred" s_l_stirred) (m1 : mg "int" = none) (m2 : mg "len" = none) (m3 : mg "sorted" = none) : C8.Cal P w K mg base 3 "_law_gd_switches" (sp3 K S_gw) [] :=
  cal_l_gd_switches D (c_l_take := take_ok D1 D2 m1 m2) (h_l_take := Nat.le_refl _) (m_sorted := m3) (len := fun us μ Q ⟨_, _, e, _⟩ => by rw [e]; rfl) (h := fun us μ Q ⟨h, m, e, hh, h1, h4, q⟩ => by
    subst e
    have big : 1000 < sizeLine := by decide
    simp [wSeq, wIfS, wRet, wRetN, wNext, wDrop, wAsg, wAug, wBreak, wCont, wV, wC, wB, L3.wTru, L3.wNot, wAnd, wOr, wAndV, wOrV, wNotV, L3.wIf, wNeg, wOp, wCall, wQ, wML, wNil, wCons, wTup, wLst, wLstM, wIsi, wSl, wPart, wNoPart, wMinD, wJoin, wFrz, gN, sIx, sIs, sIsN, sI, sI0, truU, tyOk, tyU, isTruth, L3.isNon, itemsU, listU, ixU, qInt, qAbs, qStr, L3.max_int, start3, L3.kk_nb, L3.kk_nt, L3.kk_ni, L3.kk_ns, L3.kk_nl, L3.kk_bb, L3.kk_bt, L3.kk_bi, L3.kk_bs, L3.kk_bl, L3.kk_ib, L3.kk_it, L3.kk_ii, L3.kk_is, L3.kk_il, L3.kk_sb, L3.kk_st, L3.kk_si, L3.kk_ss, L3.kk_sl, L3.kk_tb, L3.kk_tt, L3.kk_ti, L3.kk_ts, L3.kk_tl, L3.kk_lb, L3.kk_lt, L3.kk_li, L3.kk_ls, L3.kk_ll, L3.at_0, L3.at_1, L3.at_2, L3.at_3, L3.eqA_int, L3.eqA_str, L3.eqA_bl, L3.lt_int, L3.gt_int, L3.le_int, L3.ge_int, L3.lt_str, L3.gt_str, L3.le_str, L3.ge_str, L3.add_int, L3.add_str, L3.exd, L3.exd0, L3.exd1, L3.exd2, L3.exd3, L3.exd4, L3.min_int, L3.min_str, L3.len_str, L3.len_lst, L3.len_tup, W_l_gd_switches, wLc, jStr, wSlS]
    refine ⟨h, 26, rfl, hh, by omega, by omega, fun z z1 z2 => ?_⟩
    obtain ⟨z, rfl⟩ := Int.eq_ofNat_of_zero_le z1
    have z2 : z < 26 := by omega
    have hz := heads z z2 m (by omega)
    simp [wSeq, wIfS, wRet, wRetN, wNext, wDrop, wAsg, wAug, wBreak, wCont, wV, wC, wB, L3.wTru, L3.wNot, wAnd, wOr, wAndV, wOrV, wNotV, L3.wIf, wNeg, wOp, wCall, wQ, wML, wNil, wCons, wTup, wLst, wLstM, wIsi, wSl, wPart, wNoPart, wMinD, wJoin, wFrz, gN, sIx, sIs, sIsN, sI, sI0, truU, tyOk, tyU, isTruth, L3.isNon, itemsU, listU, ixU, qInt, qAbs, qStr, L3.max_int, start3, L3.kk_nb, L3.kk_nt, L3.kk_ni, L3.kk_ns, L3.kk_nl, L3.kk_bb, L3.kk_bt, L3.kk_bi, L3.kk_bs, L3.kk_bl, L3.kk_ib, L3.kk_it, L3.kk_ii, L3.kk_is, L3.kk_il, L3.kk_sb, L3.kk_st, L3.kk_si, L3.kk_ss, L3.kk_sl, L3.kk_tb, L3.kk_tt, L3.kk_ti, L3.kk_ts, L3.kk_tl, L3.kk_lb, L3.kk_lt, L3.kk_li, L3.kk_ls, L3.kk_ll, L3.at_0, L3.at_1, L3.at_2, L3.at_3, L3.eqA_int, L3.eqA_str, L3.eqA_bl, L3.lt_int, L3.gt_int, L3.le_int, L3.ge_int, L3.lt_str, L3.gt_str, L3.le_str, L3.ge_str, L3.add_int, L3.add_str, L3.exd, L3.exd0, L3.exd1, L3.exd2, L3.exd3, L3.exd4, L3.min_int, L3.min_str, L3.len_str, L3.len_lst, L3.len_tup, wLc, jStr, wSlS]
    have es : L3.signs (cutS AZ (some (z : Int)) (some ((z : Int) + (m : Int)))) = (List.range m).map fun i => U.d (.str ⟨#[65 + (z + i) % 26]⟩) := by
      unfold L3.signs
      rw [hz, List.map_map]
      rfl
    have eAZ : Str.ofString "ABCDEFGHIJKLMNOPQRSTUVWXYZABCDEFGHIJKLMNOPQRSTUVWXYZ" = AZ := rfl
    rw [eAZ, es]
    refine ⟨az_len, lcGo_inv (fun j acc μ' => ∃ zs : List Str, acc = (sl zs).map U.d ∧ zs.length = j ∧ μ' = μ ∧ ∀ i x, zs[i]? = some x → Hd (65 + (z + i) % 26) x) ⟨[], rfl, rfl, rfl, fun i x h => by simp at h⟩ (fun _ _ _ _ => trivial) (fun j hj acc μ' N ⟨zs, e1, e2, e3, e4⟩ hN => ?_) (fun acc μ' ⟨zs, e1, e2, e3, e4⟩ => ?_)⟩
    · subst e1 e3
      have hj : j < m := by simpa using hj
      rw [List.getElem_map, List.getElem_range]
      simp [wSeq, wIfS, wRet, wRetN, wNext, wDrop, wAsg, wAug, wBreak, wCont, wV, wC, wB, L3.wTru, L3.wNot, wAnd, wOr, wAndV, wOrV, wNotV, L3.wIf, wNeg, wOp, wCall, wQ, wML, wNil, wCons, wTup, wLst, wLstM, wIsi, wSl, wPart, wNoPart, wMinD, wJoin, wFrz, gN, sIx, sIs, sIsN, sI, sI0, truU, tyOk, tyU, isTruth, L3.isNon, itemsU, listU, ixU, qInt, qAbs, qStr, L3.max_int, start3, L3.kk_nb, L3.kk_nt, L3.kk_ni, L3.kk_ns, L3.kk_nl, L3.kk_bb, L3.kk_bt, L3.kk_bi, L3.kk_bs, L3.kk_bl, L3.kk_ib, L3.kk_it, L3.kk_ii, L3.kk_is, L3.kk_il, L3.kk_sb, L3.kk_st, L3.kk_si, L3.kk_ss, L3.kk_sl, L3.kk_tb, L3.kk_tt, L3.kk_ti, L3.kk_ts, L3.kk_tl, L3.kk_lb, L3.kk_lt, L3.kk_li, L3.kk_ls, L3.kk_ll, L3.at_0, L3.at_1, L3.at_2, L3.at_3, L3.eqA_int, L3.eqA_str, L3.eqA_bl, L3.lt_int, L3.gt_int, L3.le_int, L3.ge_int, L3.lt_str, L3.gt_str, L3.le_str, L3.ge_str, L3.add_int, L3.add_str, L3.exd, L3.exd0, L3.exd1, L3.exd2, L3.exd3, L3.exd4, L3.min_int, L3.min_str, L3.len_str, L3.len_lst, L3.len_tup, wipeR, wYes]
      refine ⟨L3.sl0 (by decide), h, 3, rfl, hh, by omega, by omega, fun t t1 t2 => ?_⟩
      obtain ⟨t, rfl⟩ := Int.eq_ofNat_of_zero_le t1
      have t2 : t < 3 := by omega
      obtain ⟨f1, f2⟩ := hd_f ((z + j) % 26) (Nat.mod_lt _ (by decide)) t t2
      simp [wSeq, wIfS, wRet, wRetN, wNext, wDrop, wAsg, wAug, wBreak, wCont, wV, wC, wB, L3.wTru, L3.wNot, wAnd, wOr, wAndV, wOrV, wNotV, L3.wIf, wNeg, wOp, wCall, wQ, wML, wNil, wCons, wTup, wLst, wLstM, wIsi, wSl, wPart, wNoPart, wMinD, wJoin, wFrz, gN, sIx, sIs, sIsN, sI, sI0, truU, tyOk, tyU, isTruth, L3.isNon, itemsU, listU, ixU, qInt, qAbs, qStr, L3.max_int, start3, L3.kk_nb, L3.kk_nt, L3.kk_ni, L3.kk_ns, L3.kk_nl, L3.kk_bb, L3.kk_bt, L3.kk_bi, L3.kk_bs, L3.kk_bl, L3.kk_ib, L3.kk_it, L3.kk_ii, L3.kk_is, L3.kk_il, L3.kk_sb, L3.kk_st, L3.kk_si, L3.kk_ss, L3.kk_sl, L3.kk_tb, L3.kk_tt, L3.kk_ti, L3.kk_ts, L3.kk_tl, L3.kk_lb, L3.kk_lt, L3.kk_li, L3.kk_ls, L3.kk_ll, L3.at_0, L3.at_1, L3.at_2, L3.at_3, L3.eqA_int, L3.eqA_str, L3.eqA_bl, L3.lt_int, L3.gt_int, L3.le_int, L3.ge_int, L3.lt_str, L3.gt_str, L3.le_str, L3.ge_str, L3.add_int, L3.add_str, L3.exd, L3.exd0, L3.exd1, L3.exd2, L3.exd3, L3.exd4, L3.min_int, L3.min_str, L3.len_str, L3.len_lst, L3.len_tup]
      refine ⟨_, suf_at t t2, ?_⟩
      simp [wSeq, wIfS, wRet, wRetN, wNext, wDrop, wAsg, wAug, wBreak, wCont, wV, wC, wB, L3.wTru, L3.wNot, wAnd, wOr, wAndV, wOrV, wNotV, L3.wIf, wNeg, wOp, wCall, wQ, wML, wNil, wCons, wTup, wLst, wLstM, wIsi, wSl, wPart, wNoPart, wMinD, wJoin, wFrz, gN, sIx, sIs, sIsN, sI, sI0, truU, tyOk, tyU, isTruth, L3.isNon, itemsU, listU, ixU, qInt, qAbs, qStr, L3.max_int, start3, L3.kk_nb, L3.kk_nt, L3.kk_ni, L3.kk_ns, L3.kk_nl, L3.kk_bb, L3.kk_bt, L3.kk_bi, L3.kk_bs, L3.kk_bl, L3.kk_ib, L3.kk_it, L3.kk_ii, L3.kk_is, L3.kk_il, L3.kk_sb, L3.kk_st, L3.kk_si, L3.kk_ss, L3.kk_sl, L3.kk_tb, L3.kk_tt, L3.kk_ti, L3.kk_ts, L3.kk_tl, L3.kk_lb, L3.kk_lt, L3.kk_li, L3.kk_ls, L3.kk_ll, L3.at_0, L3.at_1, L3.at_2, L3.at_3, L3.eqA_int, L3.eqA_str, L3.eqA_bl, L3.lt_int, L3.gt_int, L3.le_int, L3.ge_int, L3.lt_str, L3.gt_str, L3.le_str, L3.ge_str, L3.add_int, L3.add_str, L3.exd, L3.exd0, L3.exd1, L3.exd2, L3.exd3, L3.exd4, L3.min_int, L3.min_str, L3.len_str, L3.len_lst, L3.len_tup]
      refine ⟨f2, by rw [sl_len]; omega, hN _ _ ⟨zs ++ [(⟨#[65 + (z + j) % 26]⟩ : Str) ++ suf t], by simp [sl], by simp [e2], rfl, fun i x hx => ?_⟩⟩
      by_cases hi : i < zs.length
      · rw [List.getElem?_append_left hi] at hx
        exact e4 i x hx
      · rw [List.getElem?_append_right (by omega)] at hx
        have l := (List.getElem?_eq_some_iff.mp hx).1
        have e : i - zs.length = 0 := by simpa using l
        rw [e] at hx
        cases hx
        have e5 : i = j := by omega
        subst e5
        exact f1
    · subst e1 e3
      rw [List.length_map, List.length_range] at e2
      have e : ∀ ν : Mu, isDct ν (U.d (.list (sl zs))) = false := fun _ => rfl
      have ll : zs.length < 64 := by omega
      refine ⟨_, rfl, ?_⟩
      unfold qSortA
      simp only [e, Bool.false_eq_true, if_false]
      refine ⟨_, zs, rfl, by simp [listU, sl], ll, fun ys pm so => rtE ?_⟩
      have nd : zs.Nodup := by
        refine List.pairwise_iff_getElem.mpr fun i j hi hj hij e => ?_
        have k1 := (e4 i _ (List.getElem?_eq_getElem hi)).1
        have k2 := (e4 j _ (List.getElem?_eq_getElem hj)).1
        rw [e, k2] at k1
        have := Option.some.inj k1
        omega
      refine q ys (pm.length_eq.trans e2) (srt_of so (pm.nodup_iff.mpr nd)) fun x hx => ?_
      obtain ⟨i, hi⟩ := List.getElem?_of_mem (pm.mem_iff.mp hx)
      exact (e4 i x hi).2.1)
end
end K57

namespace K57
open PySem PySem.Spec PyProof.Rows L2 L3 Cn Lt
/-! ### tuples of texts as data -/
theorem eqv_sl : ∀ xs ys : List Str, PyData.eqvAll (sl xs) (sl ys) = decide (xs = ys)
  | [], [] => by simp [sl, PyData.eqvAll]
  | [], _ :: _ => by simp [sl, PyData.eqvAll]
  | _ :: _, [] => by simp [sl, PyData.eqvAll]
  | x :: xs, y :: ys => by
    have h := eqv_sl xs ys
    simp only [sl] at h
    simp only [sl, List.map_cons, PyData.eqvAll, PyData.eqv, h]
    by_cases e : x = y
    · subst e
      by_cases e2 : xs = ys
      · simp [e2]
      · simp [e2]
    · simp [e]
theorem lay_sl : ∀ {xs : List Str}, (∀ x ∈ xs, PyData.strOk x = true) → PyData.canLayAll0 (sl xs) = true ∧ PyData.depthAll (sl xs) = 0
  | [], _ => by simp [sl, PyData.canLayAll0, PyData.depthAll]
  | x :: xs, h => by
    have ih := lay_sl (xs := xs) fun y hy => h y (List.mem_cons_of_mem _ hy)
    have hx := h x (List.mem_cons_self ..)
    simp only [sl] at ih
    simp [sl, PyData.canLayAll0, PyData.canLay0, PyData.depthAll, PyData.depth, hx, ih.1, ih.2]
theorem shp_sl {xs : List Str} (h : ∀ x ∈ xs, PyData.strOk x = true) : SeqAt.shaped (.tuple (sl xs)) = true := by
  have l := lay_sl h
  simp [SeqAt.shaped, PyData.canLay0, PyData.depth, l.1, l.2]
theorem lay_st {nm : Nat → Str} : ∀ {T : List Lot}, (∀ t ∈ T, ∀ k ∈ t, PyData.strOk (nm k) = true) → PyData.canLayAll0 (st nm T) = true ∧ PyData.depthAll (st nm T) ≤ 1
  | [], _ => by simp [st, PyData.canLayAll0, PyData.depthAll]
  | t :: T, h => by
    have ih := lay_st (T := T) fun x hx => h x (List.mem_cons_of_mem _ hx)
    have l := lay_sl (xs := t.map nm) fun x hx => by
      obtain ⟨k, hk, rfl⟩ := List.mem_map.mp hx
      exact h t (List.mem_cons_self ..) k hk
    simp only [st] at ih
    simp only [st, List.map_cons, PyData.canLayAll0, PyData.canLay0, PyData.depthAll, PyData.depth, l.1, l.2, ih.1]
    exact ⟨rfl, Nat.max_le.mpr ⟨by omega, ih.2⟩⟩
theorem shp_st {nm : Nat → Str} {T : List Lot} (h : ∀ t ∈ T, ∀ k ∈ t, PyData.strOk (nm k) = true) : SeqAt.shaped (.list (st nm T)) = true := by
  have l := lay_st h
  simp only [SeqAt.shaped, PyData.canLay0, PyData.depth, l.1, Bool.true_and]
  exact decide_eq_true (by omega)
/-! ### the names by number -/
def nm (names : List Str) (k : Nat) : Str := names.getD k Str.empty
theorem nm_map {names : List Str} : (List.range names.length).map (nm names) = names := range_getD
theorem nm_at {names : List Str} {k : Nat} (h : k < names.length) : nm names k = names[k] := by
  unfold nm
  rw [List.getD_eq_getElem?_getD, List.getElem?_eq_getElem h]
  rfl
theorem up_rng {n : Nat} : Up (List.range n) := List.pairwise_lt_range
theorem nm_inj {names : List Str} (hs : Srt names) {i j : Nat} (hi : i < names.length) (hj : j < names.length) (e : nm names i = nm names j) : i = j := by
  rw [nm_at hi, nm_at hj] at e
  have pw := List.pairwise_iff_getElem.mp hs
  rcases Nat.lt_trichotomy i j with h | h | h
  · have := pw i j hi hj h
    rw [e, L3M.ltS_irrefl] at this
    cases this
  · exact h
  · have := pw j i hj hi h
    rw [e, L3M.ltS_irrefl] at this
    cases this
theorem map_inj {names : List Str} (hs : Srt names) : ∀ {s t : Lot}, (∀ k ∈ s, k < names.length) → (∀ k ∈ t, k < names.length) → s.map (nm names) = t.map (nm names) → s = t
  | [], [], _, _, _ => rfl
  | [], _ :: _, _, _, e => by cases e
  | _ :: _, [], _, _, e => by cases e
  | a :: s, b :: t, h1, h2, e => by
    rw [List.map_cons, List.map_cons] at e
    injection e with e1 e2
    rw [nm_inj hs (h1 a (List.mem_cons_self ..)) (h2 b (List.mem_cons_self ..)) e1, map_inj hs (fun k hk => h1 k (List.mem_cons_of_mem _ hk)) (fun k hk => h2 k (List.mem_cons_of_mem _ hk)) e2]
theorem nm_mem {names : List Str} (hs : Srt names) {t : Lot} {k : Nat} (hk : k < names.length) (ht : ∀ x ∈ t, x < names.length) : nm names k ∈ t.map (nm names) ↔ k ∈ t := by
  rw [List.mem_map]
  exact ⟨fun ⟨x, hx, e⟩ => (by rw [← nm_inj hs (ht x hx) hk e]; exact hx), fun h => ⟨k, h, rfl⟩⟩
/-! ### a switch turned -/
def fl (n j i : Nat) : Nat := idx ((bitsOf n i).set j (!(bitsOf n i).getD j false))
def fr (n j : Nat) (t : Lot) : Lot := (List.range n).filter fun k => decide (k ∈ t) != decide (k = j)
theorem fr_sub {n j : Nat} {t : Lot} : (fr n j t).Sublist (List.range n) := List.filter_sublist
theorem set_at {n i : Nat} {t : Lot} (h : (setL (List.range n))[i]? = some t) : t.Sublist (List.range n) ∧ bitsOf n i = (List.range n).map fun k => decide (k ∈ t) := by
  obtain ⟨h1, h2⟩ := setL_at up_rng h
  refine ⟨h1, ?_⟩
  have b := bitsOf_idx ((List.range n).map fun k => decide (k ∈ t))
  rw [h2, List.length_map, List.length_range] at b
  exact b
theorem fr_at {n j i : Nat} {t : Lot} (hj : j < n) (h : (setL (List.range n))[i]? = some t) : (setL (List.range n))[fl n j i]? = some (fr n j t) := by
  obtain ⟨h1, h2⟩ := set_at h
  have m : fr n j t ∈ setL (List.range n) := (setL_mem up_rng).mpr fr_sub
  obtain ⟨i', hi'⟩ := List.getElem?_of_mem m
  obtain ⟨h3, h4⟩ := setL_at up_rng hi'
  have e : fl n j i = i' := by
    rw [← h4]
    unfold fl
    congr 1
    rw [h2]
    have g : (((List.range n).map fun k => decide (k ∈ t)).getD j false) = decide (j ∈ t) := by
      rw [List.getD_eq_getElem?_getD, List.getElem?_map, List.getElem?_range hj]
      rfl
    rw [g]
    refine List.ext_getElem (by simp) fun k k1 k2 => ?_
    have kn : k < n := by simpa using k2
    rw [List.getElem_set]
    simp only [List.getElem_map, List.getElem_range]
    have mm : decide (k ∈ fr n j t) = (decide (k ∈ t) != decide (k = j)) := by
      unfold fr
      rw [Bool.eq_iff_iff, decide_eq_true_iff, List.mem_filter]
      exact ⟨fun h => h.2, fun h => ⟨List.mem_range.mpr kn, h⟩⟩
    rw [mm]
    by_cases e : j = k
    · subst e
      simp
    · rw [if_neg e, decide_eq_false (fun q : k = j => e q.symm)]
      simp
  rw [e]
  exact hi'
theorem fl_lt {n j i : Nat} : fl n j i < 2 ^ n := by
  have := idx_lt ((bitsOf n i).set j (!(bitsOf n i).getD j false))
  rw [List.length_set, bitsOf_len] at this
  exact this
/-! ### the values -/
theorem lk_rw1 {vals : List Nat} {v k : Nat} (h : k < vals.length) : lk (rw1 vals v).1 k = decide (vals.getD k 0 = v) := by
  unfold lk rw1
  rw [List.getElem?_map, List.getElem?_eq_getElem h, List.getD_eq_getElem?_getD, List.getElem?_eq_getElem h]
  rfl
theorem row_len {vals : List Nat} {v : Nat} : (rw1 vals v).1.length = vals.length := List.length_map _
theorem rows_mem {vals : List Nat} {r : List Bool × Nat} : r ∈ rowsOf vals ↔ ∃ v ∈ vals, r = rw1 vals v := by
  unfold rowsOf
  rw [List.mem_map]
  exact ⟨fun ⟨v, h, e⟩ => ⟨v, firsts_mem.mp h, e.symm⟩, fun ⟨v, h, e⟩ => ⟨v, firsts_mem.mpr h, e.symm⟩⟩
theorem getD_mem {vals : List Nat} {k : Nat} (h : k < vals.length) : vals.getD k 0 ∈ vals := by
  rw [List.getD_eq_getElem?_getD, List.getElem?_eq_getElem h]
  exact List.getElem_mem h
theorem or_word {vals : List Nat} {word : Str} {n : Nat} (hl : vals.length = 2 ^ n) : tab n (orW (rowsOf vals) word) = vals.map fun v => decide (wd v = word) := by
  unfold tab
  refine List.ext_getElem (by simp [hl]) fun k k1 k2 => ?_
  have hk : k < vals.length := by simpa using k2
  have gk : vals.getD k 0 = vals[k] := by rw [List.getD_eq_getElem?_getD, List.getElem?_eq_getElem hk]; rfl
  simp only [List.getElem_map, List.getElem_range]
  rw [Bool.eq_iff_iff, decide_eq_true_iff]
  unfold orW
  rw [List.any_eq_true]
  constructor
  · rintro ⟨r, hr, h⟩
    obtain ⟨v, hv, rfl⟩ := rows_mem.mp hr
    rw [Bool.and_eq_true, lk_rw1 hk, gk, decide_eq_true_iff, decide_eq_true_iff] at h
    rw [h.2]
    exact h.1
  · intro h
    refine ⟨_, rows_mem.mpr ⟨vals[k], List.getElem_mem hk, rfl⟩, ?_⟩
    rw [Bool.and_eq_true, lk_rw1 hk, gk]
    exact ⟨decide_eq_true h, decide_eq_true rfl⟩
theorem set_self : ∀ {bs : List Bool} {j : Nat} {b : Bool}, bs[j]? = some b → bs.set j b = bs
  | [], _, _, _ => rfl
  | _ :: _, 0, _, h => by cases h; rfl
  | x :: bs, j + 1, b, h => by
    show x :: bs.set j b = x :: bs
    rw [set_self (bs := bs) (j := j) (by simpa using h)]
theorem flip_iff {names : List Str} {vals : List Nat} {j : Nat} {a : Str} (hs : Srt names) (hl : vals.length = 2 ^ names.length) (hj : names[j]? = some a) :
    (∃ k, k < 2 ^ names.length ∧ vals.getD k 0 ≠ vals.getD (fl names.length j k) 0) ↔ ∃ r ∈ rowsOf vals, a ∈ ns (form names r.1) := by
  have jn := (List.getElem?_eq_some_iff.mp hj).1
  have key : ∀ (σ : Str → Bool) (v : Nat) (b : Bool), (form names (rw1 vals v).1).ev (Cn.set σ a b) = decide (vals.getD (idx ((names.map σ).set j b)) 0 = v) := fun σ v b => by
    have l := idx_lt ((names.map σ).set j b)
    rw [List.length_set, List.length_map] at l
    rw [form_lk _ (row_len.trans hl), set_map hs hj, lk_rw1 (by omega)]
  constructor
  · rintro ⟨k, hk, ne⟩
    obtain ⟨σ, e⟩ := some_set hs (bitsOf_len names.length k)
    have ik : idx (names.map σ) = k := by rw [e, idx_bitsOf _ _ hk]
    have lb : (names.map σ)[j]? = some ((names.map σ).getD j false) := by
      rw [List.getD_eq_getElem?_getD, List.getElem?_eq_getElem (by simpa using jn)]
      rfl
    have e1 : idx ((names.map σ).set j ((names.map σ).getD j false)) = k := by rw [set_self lb, ik]
    have e2 : idx ((names.map σ).set j (!(names.map σ).getD j false)) = fl names.length j k := by
      unfold fl
      rw [← e]
    refine ⟨_, rows_mem.mpr ⟨vals.getD k 0, getD_mem (by omega), rfl⟩, (ess (form_ab hs).1).mpr ⟨σ, fun q => ne ?_⟩⟩
    rw [key, key] at q
    have qq : ∀ b : Bool, decide (vals.getD (idx ((names.map σ).set j b)) 0 = vals.getD k 0) = decide (vals.getD (idx ((names.map σ).set j (!b))) 0 = vals.getD k 0) := fun b => by
      cases b
      · exact q.symm
      · exact q
    have q2 := qq ((names.map σ).getD j false)
    rw [e1, e2, decide_eq_true rfl] at q2
    exact (of_decide_eq_true q2.symm).symm
  · rintro ⟨r, hr, h⟩
    obtain ⟨v, hv, rfl⟩ := rows_mem.mp hr
    obtain ⟨σ, ne⟩ := (ess (form_ab hs).1).mp h
    rw [key, key] at ne
    have l := idx_lt ((names.map σ).set j true)
    rw [List.length_set, List.length_map] at l
    refine ⟨idx ((names.map σ).set j true), l, fun q => ne ?_⟩
    have bs := bitsOf_idx ((names.map σ).set j true)
    rw [List.length_set, List.length_map] at bs
    have e : fl names.length j (idx ((names.map σ).set j true)) = idx ((names.map σ).set j false) := by
      unfold fl
      rw [bs]
      have g : ((names.map σ).set j true).getD j false = true := by
        rw [List.getD_eq_getElem?_getD, List.getElem?_set_self (by simpa using jn)]
        rfl
      rw [g, List.set_set]
      rfl
    rw [e] at q
    rw [q]
end K57

namespace K57
open PySem PySem.Spec PyProof.Rows L2 L3 Cn Lt
section
variable {P : Program} {w : World} {K : Fg} {mg : Str → Option Value} {base : Heap}
structure Env0 (K : Fg) (mg : Str → Option Value) : Prop where
  len : mg "len" = none
  int : mg "int" = none
  rng : mg "range" = none
  srt : mg "sorted" = none
  tup : mg "tuple" = none
  lst : mg "list" = none
  min : mg "min" = none
  abs : mg "abs" = none
  isi : mg "isinstance" = none
  d_either : Dn K mg "either" s_p_either
  d_sw : Dn K mg "switches_of" s_p_switches_of
  d_side : Dn K mg "_side" s_p__side
  d_node : Dn K mg "_node" s_p__node
  d_oc : Dn K mg "outcome_condition" s_p_outcome_condition
  d_dc : Dn K mg "deciding_switches" s_p_deciding_switches
  l_gs : Dn K mg "_law_gd_settings" s_l_gd_settings
  l_gg : Dn K mg "_law_gd_grown" s_l_gd_grown
  l_gt : Dn K mg "_law_gd_table" s_l_gd_table
  l_gw : Dn K mg "_law_gd_switches" s_l_gd_switches
  l_hand : Dn K mg "_law_hand" s_l_hand
  l_st : Dn K mg "_law_stirred" s_l_stirred
  l_take : Dn K mg "_law_take" s_l_take
  l_pk : Dn K mg "_law_pick" s_l_pick
  l_sh : Dn K mg "_law_shuffled" s_l_shuffled
  l_law : Dn K mg "law" s_p_law
theorem eqA_li0 {f : Bool → Bool} {l : List Nat} {μ : Mu} {Q : XP} (q : Q (.d (.bool (f (decide (l = []))))) μ) : sEqA f (.d (.list (l.map fun k : Nat => PyData.int (k : Int)))) (.d (.list [])) μ Q := by
  refine ⟨_, _, rfl, rfl, ?_, by decide, ?_⟩
  · have lay : ∀ l : List Nat, PyData.canLayAll0 (l.map fun k : Nat => PyData.int (k : Int)) = true ∧ PyData.depthAll (l.map fun k : Nat => PyData.int (k : Int)) = 0 := fun l => by
      induction l with
      | nil => simp [PyData.canLayAll0, PyData.depthAll]
      | cons k l ih => simp [PyData.canLayAll0, PyData.canLay0, PyData.depthAll, PyData.depth, ih.1, ih.2]
    simp [SeqAt.shaped, PyData.canLay0, PyData.depth, (lay l).1, (lay l).2]
  · cases l with
    | nil => exact q
    | cons x xs => simpa [PyData.eqv, PyData.eqvAll] using q
theorem eqA_tsl {f : Bool → Bool} {a b : List Str} {μ : Mu} {Q : XP} (ha : ∀ x ∈ a, PyData.strOk x = true) (hb : ∀ x ∈ b, PyData.strOk x = true) (q : Q (.d (.bool (f (decide (a = b))))) μ) : sEqA f (.d (.tuple (sl a))) (.d (.tuple (sl b))) μ Q := by
  refine ⟨_, _, rfl, rfl, shp_sl ha, shp_sl hb, ?_⟩
  rw [show PyData.eqv (.tuple (sl a)) (.tuple (sl b)) = decide (a = b) from (by simp only [PyData.eqv]; exact eqv_sl a b)]
  exact q
open Classical in
noncomputable def DD (names : List Str) (vals : List Nat) (a : Str) : Bool := decide (∃ r ∈ rowsOf vals, a ∈ ns (form names r.1))
def S_law : WF := fun us μ Q => ∃ ns : List Int, us = [.d (.list (il ns))] ∧ ns.length ≤ 63 ∧ ∀ μ', Q (.d (.bool true)) μ'
theorem law_ok (E : Env0 K mg) {f : Addr} {fd : FuncData} (Fd : FunD K "law" "law" (defArgs s_p_law) (defBody s_p_law) (defScope s_p_law) [] [] f fd) : FnOk P w K mg base C8.CX0 45 f fd ["_law_script"] (sp3 K S_law) :=
  fok_p_law Fd (c_l_hand := hand_ok E.l_hand E.int E.len E.abs) (h_l_hand := by omega) (c_l_gd_switches := gw_ok E.l_gw E.l_take E.l_st E.int E.len E.srt) (h_l_gd_switches := by omega) (c_l_take := take_ok E.l_take E.l_st E.int E.len) (h_l_take := by omega)
    (c_l_gd_settings := gs_ok E.l_gs E.len E.rng) (h_l_gd_settings := by omega) (c_l_shuffled := shuffled_ok E.l_sh E.l_take E.l_st E.int E.len E.lst E.rng) (h_l_shuffled := by omega) (c_l_pick := pick_ok E.l_pk E.l_take E.l_st E.int E.len) (h_l_pick := by omega)
    (c_l_gd_table := gt_ok E.l_gt E.l_gg E.tup E.len) (h_l_gd_table := by omega) (c_p_outcome_condition := oc_ok E.d_oc E.d_either E.d_side E.d_node E.isi E.tup E.min) (h_p_outcome_condition := by omega) (c_l_gd_grown := gg_ok E.l_gg E.len 5) (h_l_gd_grown := by omega)
    (c_p_deciding_switches := dc_ok E.d_dc E.d_sw E.isi E.tup E.srt) (h_p_deciding_switches := by omega) (m_tuple := E.tup) (m_len := E.len) (m_range := E.rng) (m_isinstance := E.isi) (len := fun us μ Q ⟨_, e, _⟩ => by rw [e]; rfl) (h := fun us μ Q ⟨ns, e, hn, q⟩ => by
    subst e
    have big : 1000 < sizeLine := by decide
    simp [wSeq, wIfS, wRet, wRetN, wNext, wDrop, wAsg, wAug, wBreak, wCont, wV, wC, wB, L3.wTru, L3.wNot, wAnd, wOr, wAndV, wOrV, wNotV, L3.wIf, wNeg, wOp, wCall, wQ, wML, wNil, wCons, wTup, wLst, wLstM, wIsi, wSl, wPart, wNoPart, wMinD, wJoin, wFrz, gN, sIx, sIs, sIsN, sI, sI0, truU, tyOk, tyU, isTruth, L3.isNon, itemsU, listU, ixU, qInt, qAbs, qStr, L3.max_int, start3, L3.kk_nb, L3.kk_nt, L3.kk_ni, L3.kk_ns, L3.kk_nl, L3.kk_bb, L3.kk_bt, L3.kk_bi, L3.kk_bs, L3.kk_bl, L3.kk_ib, L3.kk_it, L3.kk_ii, L3.kk_is, L3.kk_il, L3.kk_sb, L3.kk_st, L3.kk_si, L3.kk_ss, L3.kk_sl, L3.kk_tb, L3.kk_tt, L3.kk_ti, L3.kk_ts, L3.kk_tl, L3.kk_lb, L3.kk_lt, L3.kk_li, L3.kk_ls, L3.kk_ll, L3.at_0, L3.at_1, L3.at_2, L3.at_3, L3.eqA_int, L3.eqA_str, L3.eqA_bl, L3.lt_int, L3.gt_int, L3.le_int, L3.ge_int, L3.lt_str, L3.gt_str, L3.le_str, L3.ge_str, L3.add_int, L3.add_str, L3.exd, L3.exd0, L3.exd1, L3.exd2, L3.exd3, L3.exd4, L3.min_int, L3.min_str, L3.len_str, L3.len_lst, L3.len_tup, W_p_law, wFor]
    refine ⟨ns, rfl, hn, fun h hh => ?_⟩
    refine ⟨h, 4, rfl, put_same, by omega, by omega, fun z z1 z2 => ?_⟩
    obtain ⟨m, rfl⟩ := Int.eq_ofNat_of_zero_le z1
    have em : ((1 : Int) + ((m : Nat) : Int)) = ((1 + m : Nat) : Int) := by omega
    refine ⟨h, 1 + m, by rw [em], put_same, by omega, by omega, fun names nl hs ok => ?_⟩
    have n4 : names.length ≤ 4 := by omega
    have eS : sl names = sl ((List.range names.length).map (nm names)) := by rw [nm_map]
    refine ⟨nm names, List.range names.length, by rw [nm_map], up_rng, by rw [List.length_range]; omega, ?_⟩
    have ls := setL_len (ms := List.range names.length)
    rw [List.length_range] at ls
    have p4 : 2 ^ names.length ≤ 2 ^ 4 := Nat.pow_le_pow_right (by decide) n4
    have p0 : 1 ≤ 2 ^ names.length := Nat.one_le_two_pow
    refine ⟨L3.sl0 (by decide), L3.sl0 (by decide), L3.sl0 (by decide), L3.sl0 (by decide), [ot 0, ot 1, ot 2, ot 3, ot 4], rfl, L3.sl0 (by decide), L3.sl0 (by decide), L3.sl0 (by decide), L3.sl0 (by decide), L3.sl0 (by decide), L3.sl0 (by decide), ?_⟩
    refine add_lst (ys := [ot 5, ot 6]) (L3.sl0 (by decide)) ⟨h, _, rfl, put_same, by decide, fun ys py => ?_⟩
    refine ⟨h, 4, rfl, put_same, by omega, by omega, fun z y1 y2 => ?_⟩
    obtain ⟨t, rfl⟩ := Int.eq_ofNat_of_zero_le y1
    have yl : ys.length = 7 := py.length_eq
    have em2 : ((1 : Int) + ((t : Nat) : Int)) = ((1 + t : Nat) : Int) := by omega
    have yo : ∀ y ∈ ys, ∃ v, v < 7 ∧ y = ot v := fun y hy => by
      have := py.mem_iff.mp hy
      simp only [List.cons_append, List.nil_append, List.mem_cons, List.not_mem_nil, or_false] at this
      rcases this with h | h | h | h | h | h | h <;> exact ⟨_, by decide, h⟩
    simp [wSeq, wIfS, wRet, wRetN, wNext, wDrop, wAsg, wAug, wBreak, wCont, wV, wC, wB, L3.wTru, L3.wNot, wAnd, wOr, wAndV, wOrV, wNotV, L3.wIf, wNeg, wOp, wCall, wQ, wML, wNil, wCons, wTup, wLst, wLstM, wIsi, wSl, wPart, wNoPart, wMinD, wJoin, wFrz, gN, sIx, sIs, sIsN, sI, sI0, truU, tyOk, tyU, isTruth, L3.isNon, itemsU, listU, ixU, qInt, qAbs, qStr, L3.max_int, start3, L3.kk_nb, L3.kk_nt, L3.kk_ni, L3.kk_ns, L3.kk_nl, L3.kk_bb, L3.kk_bt, L3.kk_bi, L3.kk_bs, L3.kk_bl, L3.kk_ib, L3.kk_it, L3.kk_ii, L3.kk_is, L3.kk_il, L3.kk_sb, L3.kk_st, L3.kk_si, L3.kk_ss, L3.kk_sl, L3.kk_tb, L3.kk_tt, L3.kk_ti, L3.kk_ts, L3.kk_tl, L3.kk_lb, L3.kk_lt, L3.kk_li, L3.kk_ls, L3.kk_ll, L3.at_0, L3.at_1, L3.at_2, L3.at_3, L3.eqA_int, L3.eqA_str, L3.eqA_bl, L3.lt_int, L3.gt_int, L3.le_int, L3.ge_int, L3.lt_str, L3.gt_str, L3.le_str, L3.ge_str, L3.add_int, L3.add_str, L3.exd, L3.exd0, L3.exd1, L3.exd2, L3.exd3, L3.exd4, L3.min_int, L3.min_str, L3.len_str, L3.len_lst, L3.len_tup, wLc, jSeq]
    have cz : cutL ys none (some ((1 : Int) + (t : Int))) = ys.take (1 + t) := by rw [em2]; exact cut_take (by omega)
    rw [cz]
    have ro : ∀ y ∈ ys.take (1 + t), ∃ v, v < 7 ∧ y = ot v := fun y hy => yo y (List.mem_of_mem_take hy)
    have rl : (ys.take (1 + t)).length = 1 + t := by rw [List.length_take]; omega
    generalize ys.take (1 + t) = R at *
    refine lcGo_inv (fun j acc μ' => ∃ vs : List Nat, acc = (vs.map ot).map U.d ∧ vs.length = j ∧ (∀ v ∈ vs, v < 7) ∧ μ' = put μ h .hand) ⟨[], rfl, rfl, fun v hv => (nomatch hv), rfl⟩ (fun _ _ _ _ => trivial) (fun j hj acc μ' N ⟨vs, e1, e2, e3, e4⟩ hN => ?_) (fun acc μ' ⟨vals, e1, e2, e3, e4⟩ => ?_)
    · subst e1 e4
      have hj : j < (setL (List.range names.length)).length := by simpa [st_len] using hj
      simp [wSeq, wIfS, wRet, wRetN, wNext, wDrop, wAsg, wAug, wBreak, wCont, wV, wC, wB, L3.wTru, L3.wNot, wAnd, wOr, wAndV, wOrV, wNotV, L3.wIf, wNeg, wOp, wCall, wQ, wML, wNil, wCons, wTup, wLst, wLstM, wIsi, wSl, wPart, wNoPart, wMinD, wJoin, wFrz, gN, sIx, sIs, sIsN, sI, sI0, truU, tyOk, tyU, isTruth, L3.isNon, itemsU, listU, ixU, qInt, qAbs, qStr, L3.max_int, start3, L3.kk_nb, L3.kk_nt, L3.kk_ni, L3.kk_ns, L3.kk_nl, L3.kk_bb, L3.kk_bt, L3.kk_bi, L3.kk_bs, L3.kk_bl, L3.kk_ib, L3.kk_it, L3.kk_ii, L3.kk_is, L3.kk_il, L3.kk_sb, L3.kk_st, L3.kk_si, L3.kk_ss, L3.kk_sl, L3.kk_tb, L3.kk_tt, L3.kk_ti, L3.kk_ts, L3.kk_tl, L3.kk_lb, L3.kk_lt, L3.kk_li, L3.kk_ls, L3.kk_ll, L3.at_0, L3.at_1, L3.at_2, L3.at_3, L3.eqA_int, L3.eqA_str, L3.eqA_bl, L3.lt_int, L3.gt_int, L3.le_int, L3.ge_int, L3.lt_str, L3.gt_str, L3.le_str, L3.ge_str, L3.add_int, L3.add_str, L3.exd, L3.exd0, L3.exd1, L3.exd2, L3.exd3, L3.exd4, L3.min_int, L3.min_str, L3.len_str, L3.len_lst, L3.len_tup, wipeR, wYes]
      refine ⟨h, R, rfl, put_same, by omega, by omega, fun x hx => ?_⟩
      obtain ⟨v, v7, rfl⟩ := ro x hx
      refine ⟨by omega, hN _ _ ⟨vs ++ [v], by simp, by simp [e2], fun u hu => ?_, rfl⟩⟩
      rcases List.mem_append.mp hu with hu | hu
      · exact e3 u hu
      · rw [List.mem_singleton.mp hu]; exact v7
    · subst e1 e4
      rw [List.length_map, st_len, ls] at e2
      refine ⟨_, rfl, names, vals, rfl, by omega, ok, e2, e3, L3.sl0 (by decide), ?_⟩
      have words : ∀ (j : Nat) (hj : j < 4), ∃ w : Str, ([U.d (.str (Str.ofString "value")), U.d (.str (Str.ofString "hole")), U.d (.str (Str.ofString "stuck")), U.d (.str (Str.ofString "fuel"))] : List U)[j]'hj = .d (.str w) := fun j hj => match j, hj with
        | 0, _ => ⟨_, rfl⟩
        | 1, _ => ⟨_, rfl⟩
        | 2, _ => ⟨_, rfl⟩
        | 3, _ => ⟨_, rfl⟩
      have Rw : Rws names (rowsOf vals) := ⟨hs, ok, by omega, fun r hr => by
        obtain ⟨v, hv, rfl⟩ := rows_mem.mp hr
        exact row_len.trans e2⟩
      refine forGo_inv (fun j ρ μ' => ∃ x : Option U, ρ = [some (.d (.list (il ns))), some (.r h), some (.d (.list (sl names))), some (.d (.list (st (nm names) (setL (List.range names.length))))), some (.d (.list R)), some (.d (.list (vals.map ot))), some (.d (.tuple (tbl names (rowsOf vals)))), x, none, none, none, none, none, none, none] ∧ μ' = put μ h .hand) ⟨none, rfl, rfl⟩ (fun _ _ _ _ => trivial) (fun j hj ρ μ' N ⟨x, h1, h2⟩ hN => ?_) (fun ρ μ' ⟨x, h1, h2⟩ => ?_)
      · subst h1 h2
        obtain ⟨w, ew⟩ := words j hj
        rw [ew]
        simp [wSeq, wIfS, wRet, wRetN, wNext, wDrop, wAsg, wAug, wBreak, wCont, wV, wC, wB, L3.wTru, L3.wNot, wAnd, wOr, wAndV, wOrV, wNotV, L3.wIf, wNeg, wOp, wCall, wQ, wML, wNil, wCons, wTup, wLst, wLstM, wIsi, wSl, wPart, wNoPart, wMinD, wJoin, wFrz, gN, sIx, sIs, sIsN, sI, sI0, truU, tyOk, tyU, isTruth, L3.isNon, itemsU, listU, ixU, qInt, qAbs, qStr, L3.max_int, start3, L3.kk_nb, L3.kk_nt, L3.kk_ni, L3.kk_ns, L3.kk_nl, L3.kk_bb, L3.kk_bt, L3.kk_bi, L3.kk_bs, L3.kk_bl, L3.kk_ib, L3.kk_it, L3.kk_ii, L3.kk_is, L3.kk_il, L3.kk_sb, L3.kk_st, L3.kk_si, L3.kk_ss, L3.kk_sl, L3.kk_tb, L3.kk_tt, L3.kk_ti, L3.kk_ts, L3.kk_tl, L3.kk_lb, L3.kk_lt, L3.kk_li, L3.kk_ls, L3.kk_ll, L3.at_0, L3.at_1, L3.at_2, L3.at_3, L3.eqA_int, L3.eqA_str, L3.eqA_bl, L3.lt_int, L3.gt_int, L3.le_int, L3.ge_int, L3.lt_str, L3.gt_str, L3.le_str, L3.ge_str, L3.add_int, L3.add_str, L3.exd, L3.exd0, L3.exd1, L3.exd2, L3.exd3, L3.exd4, L3.min_int, L3.min_str, L3.len_str, L3.len_lst, L3.len_tup, wLc, jSeq]
        refine ⟨names, rowsOf vals, w, rfl, Rw, ?_⟩
        refine lc_map (fun i => .bool (decide (wd (vals.getD i 0) = w))) (by rw [List.length_map]; omega) trivial (fun i hi N' hN' => ?_) ?_
        · have hi : i < vals.length := by simpa using hi
          have hxi : (vals.map (U.d ∘ ot))[i]'(by simpa using hi) = .d (ot vals[i]) := by simp
          have gi : vals.getD i 0 = vals[i] := by rw [List.getD_eq_getElem?_getD, List.getElem?_eq_getElem hi]; rfl
          rw [hxi]
          rw [gi] at hN'
          generalize vals[i] = u at *
          obtain ⟨r2, er2⟩ := ot_wd u
          rw [er2]
          simp [wSeq, wIfS, wRet, wRetN, wNext, wDrop, wAsg, wAug, wBreak, wCont, wV, wC, wB, L3.wTru, L3.wNot, wAnd, wOr, wAndV, wOrV, wNotV, L3.wIf, wNeg, wOp, wCall, wQ, wML, wNil, wCons, wTup, wLst, wLstM, wIsi, wSl, wPart, wNoPart, wMinD, wJoin, wFrz, gN, sIx, sIs, sIsN, sI, sI0, truU, tyOk, tyU, isTruth, L3.isNon, itemsU, listU, ixU, qInt, qAbs, qStr, L3.max_int, start3, L3.kk_nb, L3.kk_nt, L3.kk_ni, L3.kk_ns, L3.kk_nl, L3.kk_bb, L3.kk_bt, L3.kk_bi, L3.kk_bs, L3.kk_bl, L3.kk_ib, L3.kk_it, L3.kk_ii, L3.kk_is, L3.kk_il, L3.kk_sb, L3.kk_st, L3.kk_si, L3.kk_ss, L3.kk_sl, L3.kk_tb, L3.kk_tt, L3.kk_ti, L3.kk_ts, L3.kk_tl, L3.kk_lb, L3.kk_lt, L3.kk_li, L3.kk_ls, L3.kk_ll, L3.at_0, L3.at_1, L3.at_2, L3.at_3, L3.eqA_int, L3.eqA_str, L3.eqA_bl, L3.lt_int, L3.gt_int, L3.le_int, L3.ge_int, L3.lt_str, L3.gt_str, L3.le_str, L3.ge_str, L3.add_int, L3.add_str, L3.exd, L3.exd0, L3.exd1, L3.exd2, L3.exd3, L3.exd4, L3.min_int, L3.min_str, L3.len_str, L3.len_lst, L3.len_tup, wipeR]
          exact hN'
        · have e1 : ((List.range (vals.map (U.d ∘ ot)).length).map fun i => PyData.bool (decide (wd (vals.getD i 0) = w))) = bl (vals.map fun v => decide (wd v = w)) := by
            rw [List.length_map]
            refine List.ext_getElem (by simp [bl]) fun i h1 h2 => ?_
            have hi : i < vals.length := by simpa [bl] using h2
            simp [bl, hi]
          rw [e1]
          refine ⟨_, rfl, names, vals.map fun v => decide (wd v = w), rfl, by omega, by simpa using e2, by decide, ok, ?_⟩
          rw [or_word e2]
          have fh := form_h (names := names) (row := vals.map fun v => decide (wd v = w))
          refine eqA_T (form_nm ok) (form_nm ok) (by omega) (by omega) (fun _ => .inl ⟨rfl, hN _ _ ⟨_, rfl, rfl⟩⟩) fun ne => absurd rfl ne
      · subst h1 h2
        simp [wSeq, wIfS, wRet, wRetN, wNext, wDrop, wAsg, wAug, wBreak, wCont, wV, wC, wB, L3.wTru, L3.wNot, wAnd, wOr, wAndV, wOrV, wNotV, L3.wIf, wNeg, wOp, wCall, wQ, wML, wNil, wCons, wTup, wLst, wLstM, wIsi, wSl, wPart, wNoPart, wMinD, wJoin, wFrz, gN, sIx, sIs, sIsN, sI, sI0, truU, tyOk, tyU, isTruth, L3.isNon, itemsU, listU, ixU, qInt, qAbs, qStr, L3.max_int, start3, L3.kk_nb, L3.kk_nt, L3.kk_ni, L3.kk_ns, L3.kk_nl, L3.kk_bb, L3.kk_bt, L3.kk_bi, L3.kk_bs, L3.kk_bl, L3.kk_ib, L3.kk_it, L3.kk_ii, L3.kk_is, L3.kk_il, L3.kk_sb, L3.kk_st, L3.kk_si, L3.kk_ss, L3.kk_sl, L3.kk_tb, L3.kk_tt, L3.kk_ti, L3.kk_ts, L3.kk_tl, L3.kk_lb, L3.kk_lt, L3.kk_li, L3.kk_ls, L3.kk_ll, L3.at_0, L3.at_1, L3.at_2, L3.at_3, L3.eqA_int, L3.eqA_str, L3.eqA_bl, L3.lt_int, L3.gt_int, L3.le_int, L3.ge_int, L3.lt_str, L3.gt_str, L3.le_str, L3.ge_str, L3.add_int, L3.add_str, L3.exd, L3.exd0, L3.exd1, L3.exd2, L3.exd3, L3.exd4, L3.min_int, L3.min_str, L3.len_str, L3.len_lst, L3.len_tup, wLc, jSeq]
        intro p hp
        have ph : h ≠ p := fun e => by rw [← e, put_same] at hp; cases hp
        have hk : ∀ k ∈ List.range names.length, k < names.length := fun k hk => List.mem_range.mp hk
        have eN : (sl names).map U.d = (List.range names.length).map fun k => U.d (.str (nm names k)) := by
          rw [eS]
          simp [sl]
        simp [wSeq, wIfS, wRet, wRetN, wNext, wDrop, wAsg, wAug, wBreak, wCont, wV, wC, wB, L3.wTru, L3.wNot, wAnd, wOr, wAndV, wOrV, wNotV, L3.wIf, wNeg, wOp, wCall, wQ, wML, wNil, wCons, wTup, wLst, wLstM, wIsi, wSl, wPart, wNoPart, wMinD, wJoin, wFrz, gN, sIx, sIs, sIsN, sI, sI0, truU, tyOk, tyU, isTruth, L3.isNon, itemsU, listU, ixU, qInt, qAbs, qStr, L3.max_int, start3, L3.kk_nb, L3.kk_nt, L3.kk_ni, L3.kk_ns, L3.kk_nl, L3.kk_bb, L3.kk_bt, L3.kk_bi, L3.kk_bs, L3.kk_bl, L3.kk_ib, L3.kk_it, L3.kk_ii, L3.kk_is, L3.kk_il, L3.kk_sb, L3.kk_st, L3.kk_si, L3.kk_ss, L3.kk_sl, L3.kk_tb, L3.kk_tt, L3.kk_ti, L3.kk_ts, L3.kk_tl, L3.kk_lb, L3.kk_lt, L3.kk_li, L3.kk_ls, L3.kk_ll, L3.at_0, L3.at_1, L3.at_2, L3.at_3, L3.eqA_int, L3.eqA_str, L3.eqA_bl, L3.lt_int, L3.gt_int, L3.le_int, L3.ge_int, L3.lt_str, L3.gt_str, L3.le_str, L3.ge_str, L3.add_int, L3.add_str, L3.exd, L3.exd0, L3.exd1, L3.exd2, L3.exd3, L3.exd4, L3.min_int, L3.min_str, L3.len_str, L3.len_lst, L3.len_tup, wFor, jSeq]
        refine forGo_inv (fun j ρ μ' => ∃ (y z : Option U), ρ = [some (.d (.list (il ns))), some (.r h), some (.d (.list (sl names))), some (.d (.list (st (nm names) (setL (List.range names.length))))), some (.d (.list R)), some (.d (.list (vals.map ot))), some (.d (.tuple (tbl names (rowsOf vals)))), x, some (.r p), y, none, z, none, none, none] ∧
          μ' = put (put μ h .hand) p (.lst ((sl ((names.take j).filter (DD names vals))).map U.d))) ⟨none, none, rfl, rfl⟩ (fun _ _ _ _ => trivial) (fun j hj ρ μ' N ⟨y, z, h1, h2⟩ hN => ?_) (fun ρ μ' ⟨y, z, h1, h2⟩ => ?_)
        · subst h1 h2
          have hj : j < names.length := by simpa [sl_len] using hj
          have hx : ((sl names).map U.d)[j]'(by simpa [sl_len] using hj) = .d (.str names[j]) := by simp [sl]
          rw [hx]
          have ea : names[j] = nm names j := (nm_at hj).symm
          simp [wSeq, wIfS, wRet, wRetN, wNext, wDrop, wAsg, wAug, wBreak, wCont, wV, wC, wB, L3.wTru, L3.wNot, wAnd, wOr, wAndV, wOrV, wNotV, L3.wIf, wNeg, wOp, wCall, wQ, wML, wNil, wCons, wTup, wLst, wLstM, wIsi, wSl, wPart, wNoPart, wMinD, wJoin, wFrz, gN, sIx, sIs, sIsN, sI, sI0, truU, tyOk, tyU, isTruth, L3.isNon, itemsU, listU, ixU, qInt, qAbs, qStr, L3.max_int, start3, L3.kk_nb, L3.kk_nt, L3.kk_ni, L3.kk_ns, L3.kk_nl, L3.kk_bb, L3.kk_bt, L3.kk_bi, L3.kk_bs, L3.kk_bl, L3.kk_ib, L3.kk_it, L3.kk_ii, L3.kk_is, L3.kk_il, L3.kk_sb, L3.kk_st, L3.kk_si, L3.kk_ss, L3.kk_sl, L3.kk_tb, L3.kk_tt, L3.kk_ti, L3.kk_ts, L3.kk_tl, L3.kk_lb, L3.kk_lt, L3.kk_li, L3.kk_ls, L3.kk_ll, L3.at_0, L3.at_1, L3.at_2, L3.at_3, L3.eqA_int, L3.eqA_str, L3.eqA_bl, L3.lt_int, L3.gt_int, L3.le_int, L3.ge_int, L3.lt_str, L3.gt_str, L3.le_str, L3.ge_str, L3.add_int, L3.add_str, L3.exd, L3.exd0, L3.exd1, L3.exd2, L3.exd3, L3.exd4, L3.min_int, L3.min_str, L3.len_str, L3.len_lst, L3.len_tup, wLc, jSeq, jRng1]
          refine lc_map (fun i => .int ((fl names.length j i : Nat) : Int)) (by rw [List.length_map, st_len]; omega) trivial (fun i hi N' hN' => ?_) ?_
          · have hi : i < (setL (List.range names.length)).length := by simpa [st_len] using hi
            have hxi : ((st (nm names) (setL (List.range names.length))).map U.d)[i]'(by simpa [st_len] using hi) = .d (.tuple (sl ((setL (List.range names.length))[i].map (nm names)))) := by simp [st]
            rw [hxi]
            have hT := List.getElem?_eq_getElem hi
            have hF := fr_at hj hT
            obtain ⟨sb, _⟩ := set_at hT
            generalize (setL (List.range names.length))[i] = tt at *
            have tn : ∀ k ∈ tt, k < names.length := fun k hk => List.mem_range.mp (sb.subset hk)
            simp [wSeq, wIfS, wRet, wRetN, wNext, wDrop, wAsg, wAug, wBreak, wCont, wV, wC, wB, L3.wTru, L3.wNot, wAnd, wOr, wAndV, wOrV, wNotV, L3.wIf, wNeg, wOp, wCall, wQ, wML, wNil, wCons, wTup, wLst, wLstM, wIsi, wSl, wPart, wNoPart, wMinD, wJoin, wFrz, gN, sIx, sIs, sIsN, sI, sI0, truU, tyOk, tyU, isTruth, L3.isNon, itemsU, listU, ixU, qInt, qAbs, qStr, L3.max_int, start3, L3.kk_nb, L3.kk_nt, L3.kk_ni, L3.kk_ns, L3.kk_nl, L3.kk_bb, L3.kk_bt, L3.kk_bi, L3.kk_bs, L3.kk_bl, L3.kk_ib, L3.kk_it, L3.kk_ii, L3.kk_is, L3.kk_il, L3.kk_sb, L3.kk_st, L3.kk_si, L3.kk_ss, L3.kk_sl, L3.kk_tb, L3.kk_tt, L3.kk_ti, L3.kk_ts, L3.kk_tl, L3.kk_lb, L3.kk_lt, L3.kk_li, L3.kk_ls, L3.kk_ll, L3.at_0, L3.at_1, L3.at_2, L3.at_3, L3.eqA_int, L3.eqA_str, L3.eqA_bl, L3.lt_int, L3.gt_int, L3.le_int, L3.ge_int, L3.lt_str, L3.gt_str, L3.le_str, L3.ge_str, L3.add_int, L3.add_str, L3.exd, L3.exd0, L3.exd1, L3.exd2, L3.exd3, L3.exd4, L3.min_int, L3.min_str, L3.len_str, L3.len_lst, L3.len_tup, wipeR, wLc, jSeq]
            refine ⟨⟨_, rfl⟩, ?_⟩
            rw [eN]
            refine lc_filter (List.range names.length) (fun k => U.d (.str (nm names k))) (fun k => .str (nm names k)) (fun k => decide (k ∈ tt) != decide (k = j)) (by rw [List.length_range]; omega) trivial (fun k hk T hT => ?_) (fun k hk _ N hN => ?_) ?_
            · have hk := List.mem_range.mp hk
              simp [wSeq, wIfS, wRet, wRetN, wNext, wDrop, wAsg, wAug, wBreak, wCont, wV, wC, wB, L3.wTru, L3.wNot, wAnd, wOr, wAndV, wOrV, wNotV, L3.wIf, wNeg, wOp, wCall, wQ, wML, wNil, wCons, wTup, wLst, wLstM, wIsi, wSl, wPart, wNoPart, wMinD, wJoin, wFrz, gN, sIx, sIs, sIsN, sI, sI0, truU, tyOk, tyU, isTruth, L3.isNon, itemsU, listU, ixU, qInt, qAbs, qStr, L3.max_int, start3, L3.kk_nb, L3.kk_nt, L3.kk_ni, L3.kk_ns, L3.kk_nl, L3.kk_bb, L3.kk_bt, L3.kk_bi, L3.kk_bs, L3.kk_bl, L3.kk_ib, L3.kk_it, L3.kk_ii, L3.kk_is, L3.kk_il, L3.kk_sb, L3.kk_st, L3.kk_si, L3.kk_ss, L3.kk_sl, L3.kk_tb, L3.kk_tt, L3.kk_ti, L3.kk_ts, L3.kk_tl, L3.kk_lb, L3.kk_lt, L3.kk_li, L3.kk_ls, L3.kk_ll, L3.at_0, L3.at_1, L3.at_2, L3.at_3, L3.eqA_int, L3.eqA_str, L3.eqA_bl, L3.lt_int, L3.gt_int, L3.le_int, L3.ge_int, L3.lt_str, L3.gt_str, L3.le_str, L3.ge_str, L3.add_int, L3.add_str, L3.exd, L3.exd0, L3.exd1, L3.exd2, L3.exd3, L3.exd4, L3.min_int, L3.min_str, L3.len_str, L3.len_lst, L3.len_tup]
              refine ⟨nm names k, tt.map (nm names), rfl, by simp [itemsU, sl, List.map_map], ?_⟩
              have d1 : decide (nm names k ∈ tt.map (nm names)) = decide (k ∈ tt) := by
                have m := nm_mem hs hk tn (t := tt)
                by_cases z : k ∈ tt
                · rw [decide_eq_true z, decide_eq_true (m.mpr z)]
                · rw [decide_eq_false z, decide_eq_false fun y => z (m.mp y)]
              have d2 : decide (nm names k = names[j]) = decide (k = j) := by
                rw [ea]
                by_cases z : k = j
                · rw [decide_eq_true z, decide_eq_true (by rw [z])]
                · rw [decide_eq_false z, decide_eq_false fun y => z (nm_inj hs hk hj y)]
              rw [d1, d2]
              generalize decide (k ∈ tt) = b1 at hT ⊢
              generalize decide (k = j) = b2 at hT ⊢
              cases b1 <;> cases b2 <;> first | exact .inl ⟨rfl, hT⟩ | exact .inr ⟨rfl, hT⟩
            · simp [wSeq, wIfS, wRet, wRetN, wNext, wDrop, wAsg, wAug, wBreak, wCont, wV, wC, wB, L3.wTru, L3.wNot, wAnd, wOr, wAndV, wOrV, wNotV, L3.wIf, wNeg, wOp, wCall, wQ, wML, wNil, wCons, wTup, wLst, wLstM, wIsi, wSl, wPart, wNoPart, wMinD, wJoin, wFrz, gN, sIx, sIs, sIsN, sI, sI0, truU, tyOk, tyU, isTruth, L3.isNon, itemsU, listU, ixU, qInt, qAbs, qStr, L3.max_int, start3, L3.kk_nb, L3.kk_nt, L3.kk_ni, L3.kk_ns, L3.kk_nl, L3.kk_bb, L3.kk_bt, L3.kk_bi, L3.kk_bs, L3.kk_bl, L3.kk_ib, L3.kk_it, L3.kk_ii, L3.kk_is, L3.kk_il, L3.kk_sb, L3.kk_st, L3.kk_si, L3.kk_ss, L3.kk_sl, L3.kk_tb, L3.kk_tt, L3.kk_ti, L3.kk_ts, L3.kk_tl, L3.kk_lb, L3.kk_lt, L3.kk_li, L3.kk_ls, L3.kk_ll, L3.at_0, L3.at_1, L3.at_2, L3.at_3, L3.eqA_int, L3.eqA_str, L3.eqA_bl, L3.lt_int, L3.gt_int, L3.le_int, L3.ge_int, L3.lt_str, L3.gt_str, L3.le_str, L3.ge_str, L3.add_int, L3.add_str, L3.exd, L3.exd0, L3.exd1, L3.exd2, L3.exd3, L3.exd4, L3.min_int, L3.min_str, L3.len_str, L3.len_lst, L3.len_tup]
              exact hN
            · have e : ((List.range names.length).filter fun k => decide (k ∈ tt) != decide (k = j)).map (fun k => PyData.str (nm names k)) = sl ((fr names.length j tt).map (nm names)) := by simp [sl, fr, List.map_map]
              rw [e]
              have fn : ∀ k ∈ fr names.length j tt, k < names.length := fun k hk => List.mem_range.mp (fr_sub.subset hk)
              have okn : ∀ k, k < names.length → PyData.strOk (nm names k) = true := fun k hk => by
                rw [nm_at hk]
                exact ok _ (List.getElem_mem hk)
              refine ⟨_, rfl, _, _, rfl, rfl, .tuple (sl ((fr names.length j tt).map (nm names))), st (nm names) (setL (List.range names.length)), fl names.length j i, .tuple (sl ((fr names.length j tt).map (nm names))), rfl, rfl,
                shp_st fun s hs2 k hk => okn k (List.mem_range.mp (((setL_mem up_rng).mp hs2).subset hk)), shp_sl fun x hx => ?_, ?_, ?_, fun m z' hm hz => ?_, hN'⟩
              · obtain ⟨k, hk, rfl⟩ := List.mem_map.mp hx
                exact okn k (fn k hk)
              · unfold st
                rw [List.getElem?_map, hF]
                rfl
              · simp only [PyData.eqv]
                rw [eqv_sl]
                exact decide_eq_true rfl
              · unfold st at hz
                rw [List.getElem?_map] at hz
                cases hS : (setL (List.range names.length))[m]? with
                | none => rw [hS] at hz; cases hz
                | some s2 =>
                  rw [hS] at hz
                  cases hz
                  simp only [PyData.eqv]
                  rw [eqv_sl]
                  obtain ⟨g1, g2⟩ := setL_at up_rng hS
                  obtain ⟨g3, g4⟩ := setL_at up_rng hF
                  refine decide_eq_false fun e => ?_
                  have e5 := map_inj hs (fun k hk => List.mem_range.mp (g1.subset hk)) fn e
                  rw [e5, g4] at g2
                  omega
          · have e1 : ((List.range ((st (nm names) (setL (List.range names.length))).map U.d).length).map fun i => PyData.int ((fl names.length j i : Nat) : Int)) = (List.range (2 ^ names.length)).map fun i => PyData.int ((fl names.length j i : Nat) : Int) := by rw [List.length_map, st_len, ls]
            rw [e1, st_len, ls]
            refine ⟨_, rfl, by omega, ?_⟩
            refine lc_filter (List.range (2 ^ names.length)) (fun k : Nat => U.d (.int (k : Int))) (fun k : Nat => .int (k : Int)) (fun k => decide (vals.getD k 0 ≠ vals.getD (fl names.length j k) 0)) (by rw [List.length_range]; omega) trivial (fun k hk T hT => ?_) (fun k hk _ N hN => ?_) ?_
            · have hk := List.mem_range.mp hk
              have hf := fl_lt (n := names.length) (j := j) (i := k)
              have av : ∀ i, i < 2 ^ names.length → atI ((vals.map ot).map U.d) ((i : Nat) : Int) = some (.d (ot (vals.getD i 0))) := fun i hi => by
                have hi : i < vals.length := by omega
                have gi : vals.getD i 0 = vals[i] := by rw [List.getD_eq_getElem?_getD, List.getElem?_eq_getElem hi]; rfl
                rw [gi, L3.at_n (by rw [List.length_map, List.length_map]; exact hi)]
                simp
              have a11 : atI (((List.range (2 ^ names.length)).map fun i => PyData.int ((fl names.length j i : Nat) : Int)).map U.d) ((k : Nat) : Int) = some (.d (.int ((fl names.length j k : Nat) : Int))) := by
                rw [L3.at_n (by rw [List.length_map, List.length_map, List.length_range]; exact hk)]
                simp
              have v1 := e3 _ (getD_mem (vals := vals) (k := k) (by omega))
              have v2 := e3 _ (getD_mem (vals := vals) (k := fl names.length j k) (by omega))
              have A1 := av k hk
              have A2 := av _ hf
              rw [List.map_map] at A1 A2 a11
              simp [wSeq, wIfS, wRet, wRetN, wNext, wDrop, wAsg, wAug, wBreak, wCont, wV, wC, wB, L3.wTru, L3.wNot, wAnd, wOr, wAndV, wOrV, wNotV, L3.wIf, wNeg, wOp, wCall, wQ, wML, wNil, wCons, wTup, wLst, wLstM, wIsi, wSl, wPart, wNoPart, wMinD, wJoin, wFrz, gN, sIx, sIs, sIsN, sI, sI0, truU, tyOk, tyU, isTruth, L3.isNon, itemsU, listU, ixU, qInt, qAbs, qStr, L3.max_int, start3, L3.kk_nb, L3.kk_nt, L3.kk_ni, L3.kk_ns, L3.kk_nl, L3.kk_bb, L3.kk_bt, L3.kk_bi, L3.kk_bs, L3.kk_bl, L3.kk_ib, L3.kk_it, L3.kk_ii, L3.kk_is, L3.kk_il, L3.kk_sb, L3.kk_st, L3.kk_si, L3.kk_ss, L3.kk_sl, L3.kk_tb, L3.kk_tt, L3.kk_ti, L3.kk_ts, L3.kk_tl, L3.kk_lb, L3.kk_lt, L3.kk_li, L3.kk_ls, L3.kk_ll, L3.at_0, L3.at_1, L3.at_2, L3.at_3, L3.eqA_int, L3.eqA_str, L3.eqA_bl, L3.lt_int, L3.gt_int, L3.le_int, L3.ge_int, L3.lt_str, L3.gt_str, L3.le_str, L3.ge_str, L3.add_int, L3.add_str, L3.exd, L3.exd0, L3.exd1, L3.exd2, L3.exd3, L3.exd4, L3.min_int, L3.min_str, L3.len_str, L3.len_lst, L3.len_tup, wipeR]
              refine ⟨_, A1, _, a11, _, rfl, _, A2, ?_⟩
              generalize vals.getD k 0 = u1 at *
              generalize vals.getD (fl names.length j k) 0 = u2 at *
              have kk : sEq not (U.d (ot u1)) (U.d (ot u2)) (put (put μ h .hand) p (.lst ((sl ((names.take j).filter (DD names vals))).map U.d))) fun x μ1 => x = U.d (PyData.bool false) ∧ T false μ1 ∨ x = U.d (PyData.bool true) ∧ T true μ1 := by
                refine ⟨_, _, rfl, rfl, (ot_shp u1 v1).1, (ot_shp u2 v2).1, ?_⟩
                rw [ot_eq u1 v1 u2 v2]
                by_cases c : u1 = u2
                · rw [decide_eq_true c]
                  rw [decide_eq_false (fun n : u1 ≠ u2 => n c)] at hT
                  exact .inl ⟨rfl, hT⟩
                · rw [decide_eq_false c]
                  rw [decide_eq_true (show u1 ≠ u2 from c)] at hT
                  exact .inr ⟨rfl, hT⟩
              obtain ⟨r1, er1⟩ := ot_wd u1
              rw [er1] at kk ⊢
              exact kk
            · simp [wSeq, wIfS, wRet, wRetN, wNext, wDrop, wAsg, wAug, wBreak, wCont, wV, wC, wB, L3.wTru, L3.wNot, wAnd, wOr, wAndV, wOrV, wNotV, L3.wIf, wNeg, wOp, wCall, wQ, wML, wNil, wCons, wTup, wLst, wLstM, wIsi, wSl, wPart, wNoPart, wMinD, wJoin, wFrz, gN, sIx, sIs, sIsN, sI, sI0, truU, tyOk, tyU, isTruth, L3.isNon, itemsU, listU, ixU, qInt, qAbs, qStr, L3.max_int, start3, L3.kk_nb, L3.kk_nt, L3.kk_ni, L3.kk_ns, L3.kk_nl, L3.kk_bb, L3.kk_bt, L3.kk_bi, L3.kk_bs, L3.kk_bl, L3.kk_ib, L3.kk_it, L3.kk_ii, L3.kk_is, L3.kk_il, L3.kk_sb, L3.kk_st, L3.kk_si, L3.kk_ss, L3.kk_sl, L3.kk_tb, L3.kk_tt, L3.kk_ti, L3.kk_ts, L3.kk_tl, L3.kk_lb, L3.kk_lt, L3.kk_li, L3.kk_ls, L3.kk_ll, L3.at_0, L3.at_1, L3.at_2, L3.at_3, L3.eqA_int, L3.eqA_str, L3.eqA_bl, L3.lt_int, L3.gt_int, L3.le_int, L3.ge_int, L3.lt_str, L3.gt_str, L3.le_str, L3.ge_str, L3.add_int, L3.add_str, L3.exd, L3.exd0, L3.exd1, L3.exd2, L3.exd3, L3.exd4, L3.min_int, L3.min_str, L3.len_str, L3.len_lst, L3.len_tup, wipeR]
              exact hN
            · have tk : (names.take (j + 1)).filter (DD names vals) = (names.take j).filter (DD names vals) ++ if DD names vals names[j] = true then [names[j]] else [] := by
                rw [List.take_succ_eq_append_getElem hj, List.filter_append]
                cases q : DD names vals names[j] <;> simp [q]
              have fi := flip_iff hs e2 (List.getElem?_eq_getElem hj)
              have sz : ((names.take j).filter (DD names vals)).length ≤ j := by
                have := List.length_filter_le (DD names vals) (names.take j)
                rw [List.length_take] at this
                omega
              refine ⟨_, rfl, eqA_li0 ?_⟩
              by_cases c : DD names vals names[j] = true
              · rw [if_pos c] at tk
                unfold DD at c
                obtain ⟨k, hk, ne⟩ := fi.mpr (of_decide_eq_true c)
                have nn : ¬ (List.range (2 ^ names.length)).filter (fun k => decide (vals.getD k 0 ≠ vals.getD (fl names.length j k) 0)) = [] := fun e => by
                  have : k ∈ (List.range (2 ^ names.length)).filter (fun k => decide (vals.getD k 0 ≠ vals.getD (fl names.length j k) 0)) := List.mem_filter.mpr ⟨List.mem_range.mpr hk, decide_eq_true ne⟩
                  rw [e] at this
                  cases this
                refine .inr ⟨by rw [decide_eq_false nn]; rfl, isL_r put_same, append_r put_same (by rw [List.length_map, sl_len]; omega) ?_⟩
                rw [put_put]
                refine hN _ _ ⟨_, _, rfl, ?_⟩
                rw [tk]
                simp [sl]
              · rw [if_neg c, List.append_nil] at tk
                have nn : (List.range (2 ^ names.length)).filter (fun k => decide (vals.getD k 0 ≠ vals.getD (fl names.length j k) 0)) = [] := List.filter_eq_nil_iff.mpr fun k hk q => by
                  unfold DD at c
                  exact c (decide_eq_true (fi.mp ⟨k, List.mem_range.mp hk, of_decide_eq_true q⟩))
                refine .inl ⟨by rw [decide_eq_true nn]; rfl, ?_⟩
                rw [← tk]
                exact hN _ _ ⟨_, _, rfl, rfl⟩
        · subst h1 h2
          rw [List.length_map, sl_len, List.take_length]
          simp [wSeq, wIfS, wRet, wRetN, wNext, wDrop, wAsg, wAug, wBreak, wCont, wV, wC, wB, L3.wTru, L3.wNot, wAnd, wOr, wAndV, wOrV, wNotV, L3.wIf, wNeg, wOp, wCall, wQ, wML, wNil, wCons, wTup, wLst, wLstM, wIsi, wSl, wPart, wNoPart, wMinD, wJoin, wFrz, gN, sIx, sIs, sIsN, sI, sI0, truU, tyOk, tyU, isTruth, L3.isNon, itemsU, listU, ixU, qInt, qAbs, qStr, L3.max_int, start3, L3.kk_nb, L3.kk_nt, L3.kk_ni, L3.kk_ns, L3.kk_nl, L3.kk_bb, L3.kk_bt, L3.kk_bi, L3.kk_bs, L3.kk_bl, L3.kk_ib, L3.kk_it, L3.kk_ii, L3.kk_is, L3.kk_il, L3.kk_sb, L3.kk_st, L3.kk_si, L3.kk_ss, L3.kk_sl, L3.kk_tb, L3.kk_tt, L3.kk_ti, L3.kk_ts, L3.kk_tl, L3.kk_lb, L3.kk_lt, L3.kk_li, L3.kk_ls, L3.kk_ll, L3.at_0, L3.at_1, L3.at_2, L3.at_3, L3.eqA_int, L3.eqA_str, L3.eqA_bl, L3.lt_int, L3.gt_int, L3.le_int, L3.ge_int, L3.lt_str, L3.gt_str, L3.le_str, L3.ge_str, L3.add_int, L3.add_str, L3.exd, L3.exd0, L3.exd1, L3.exd2, L3.exd3, L3.exd4, L3.min_int, L3.min_str, L3.len_str, L3.len_lst, L3.len_tup]
          refine ⟨names, rowsOf vals, rfl, Rw, fun ys so nd me => ?_⟩
          have e4 : ys = names.filter (DD names vals) := by
            refine srt_ext (srt_of so nd) (hs.sublist List.filter_sublist) fun z => ?_
            rw [me, List.mem_filter]
            unfold DD
            rw [decide_eq_true_iff]
            exact ⟨fun h => ⟨(fun ⟨r, hr, h⟩ => ns_form hs (Rw.len r hr) h : (∃ r ∈ rowsOf vals, z ∈ K57.ns (form names r.1)) → z ∈ names) h, h⟩, fun h => h.2⟩
          refine ⟨rfl, .inr ⟨rfl, ?_⟩⟩
          refine ⟨_, sl (names.filter (DD names vals)), rfl, by simp only [itemsU, put_same], ?_⟩
          have okf : ∀ x ∈ names.filter (DD names vals), PyData.strOk x = true := fun x hx => ok x (List.mem_filter.mp hx).1
          rw [e4]
          refine eqA_tsl okf okf ?_
          rw [decide_eq_true rfl]
          exact rtE (q _))
end
end K57

namespace K57
open PySem PySem.Spec PyProof.Rows L2 L3 Cn Lt
theorem law_sp {K : PySem.W.Frag} {vs : List V} {H : Hp} {Q : VK} {E : XK} (h : ∃ (a : Addr) (ns : List Int), vs = [.ref a] ∧ SqL K H a (ns.map V.int) ∧ ns.length ≤ 63 ∧ ∀ H', Q (.bl true) H') : sp3 K S_law vs H Q E := by
  obtain ⟨a, ns, rfl, hS, hl, q⟩ := h
  refine ⟨[.d (.list (il ns))], fun _ => none, H, fun _ => none, fun u _ => u = .d (.bool true), ⟨fun _ _ h => h, fun _ _ h => (nomatch h), fun _ _ h => (nomatch h)⟩, .cons (Rp.lst hS (rps_ints' ns)) .nil, ⟨ns, rfl, hl, fun _ => rfl⟩, fun v u G' H' μ' _ _ r e => ?_⟩
  subst e
  rw [rp_bl r]
  exact q H'
/-! ### the head -/
def hd_p_either : He.DefD := ⟨("either", none), "either", "either", defArgs s_p_either, defBody s_p_either, defScope s_p_either, [], []⟩
def hd_p_switches_of : He.DefD := ⟨("switches_of", none), "switches_of", "switches_of", defArgs s_p_switches_of, defBody s_p_switches_of, defScope s_p_switches_of, [], []⟩
def hd_p__side : He.DefD := ⟨("_side", none), "_side", "_side", defArgs s_p__side, defBody s_p__side, defScope s_p__side, [], []⟩
def hd_p__node : He.DefD := ⟨("_node", none), "_node", "_node", defArgs s_p__node, defBody s_p__node, defScope s_p__node, [], []⟩
def hd_p_outcome_condition : He.DefD := ⟨("outcome_condition", none), "outcome_condition", "outcome_condition", defArgs s_p_outcome_condition, defBody s_p_outcome_condition, defScope s_p_outcome_condition, [], []⟩
def hd_p_deciding_switches : He.DefD := ⟨("deciding_switches", none), "deciding_switches", "deciding_switches", defArgs s_p_deciding_switches, defBody s_p_deciding_switches, defScope s_p_deciding_switches, [], []⟩
def hd_l_gd_settings : He.DefD := ⟨("_law_gd_settings", none), "_law_gd_settings", "_law_gd_settings", defArgs s_l_gd_settings, defBody s_l_gd_settings, defScope s_l_gd_settings, [], []⟩
def hd_l_gd_grown : He.DefD := ⟨("_law_gd_grown", none), "_law_gd_grown", "_law_gd_grown", defArgs s_l_gd_grown, defBody s_l_gd_grown, defScope s_l_gd_grown, [], []⟩
def hd_l_gd_table : He.DefD := ⟨("_law_gd_table", none), "_law_gd_table", "_law_gd_table", defArgs s_l_gd_table, defBody s_l_gd_table, defScope s_l_gd_table, [], []⟩
def hd_l_gd_switches : He.DefD := ⟨("_law_gd_switches", none), "_law_gd_switches", "_law_gd_switches", defArgs s_l_gd_switches, defBody s_l_gd_switches, defScope s_l_gd_switches, [], []⟩
def hd_l_hand : He.DefD := ⟨("_law_hand", none), "_law_hand", "_law_hand", defArgs s_l_hand, defBody s_l_hand, defScope s_l_hand, [], []⟩
def hd_l_stirred : He.DefD := ⟨("_law_stirred", none), "_law_stirred", "_law_stirred", defArgs s_l_stirred, defBody s_l_stirred, defScope s_l_stirred, [], []⟩
def hd_l_take : He.DefD := ⟨("_law_take", none), "_law_take", "_law_take", defArgs s_l_take, defBody s_l_take, defScope s_l_take, [], []⟩
def hd_l_pick : He.DefD := ⟨("_law_pick", none), "_law_pick", "_law_pick", defArgs s_l_pick, defBody s_l_pick, defScope s_l_pick, [], []⟩
def hd_l_shuffled : He.DefD := ⟨("_law_shuffled", none), "_law_shuffled", "_law_shuffled", defArgs s_l_shuffled, defBody s_l_shuffled, defScope s_l_shuffled, [], []⟩
def hd_p_law : He.DefD := ⟨("law", none), "law", "law", defArgs s_p_law, defBody s_p_law, defScope s_p_law, [], []⟩
def hfn : List He.DefD := [hd_p_either, hd_p_switches_of, hd_p__side, hd_p__node, hd_p_outcome_condition, hd_p_deciding_switches, hd_l_gd_settings, hd_l_gd_grown, hd_l_gd_table, hd_l_gd_switches, hd_l_hand, hd_l_stirred, hd_l_take, hd_l_pick, hd_l_shuffled, hd_p_law]
def hfa : List He.Fa := [.glo "either", .glo "switches_of", .glo "_side", .glo "_node", .glo "outcome_condition", .glo "deciding_switches", .glo "_law_gd_settings", .glo "_law_gd_grown", .glo "_law_gd_table", .glo "_law_gd_switches", .glo "_law_hand", .glo "_law_stirred", .glo "_law_take", .glo "_law_pick", .glo "_law_shuffled", .glo "law", .free "min", .free "isinstance", .free "tuple", .free "sorted", .free "len", .free "range", .free "int", .free "abs", .free "list"]
abbrev HR : PySem.W.OpenRow := PySem.W.OpenLaw.row PySem.Challenge.rw_eacharm_k57_outcomes_in_tables
abbrev hk : PySem.W.Hook := He.hookD 4 hfa hfn
def hob (s : PySem.W.SharedT) : He.AlD := He.obsDG 4 hfa hfn (HandSHeadRun.getT s)
theorem hob_eq (s : PySem.W.SharedT) : hob s = hk.obs s.abs := He.obsDG_eq (HandSHeadRun.getT_eq s)
theorem hrun (w : World) : HandSHeadRun.RunEq HR (PySem.W.view HR.prog [18]) hk hob 3000 ["either", "switches_of", "_side", "_node", "outcome_condition", "deciding_switches", "_law_gd_settings", "_law_gd_grown", "_law_gd_table", "_law_gd_switches", "_law_hand", "_law_stirred", "_law_take", "_law_pick", "_law_shuffled"] w := by
  intro os
  kernel_rfl
section
variable {K : PySem.W.Frag} {h : Heap} {mg : Str → Option Value}
theorem dn_p_either (X : K.In h) (G : h.Ns mainGlobals mg) (c : He.SaysD hfa hfn K) : Dn K mg "either" s_p_either := by
  obtain ⟨fd, F⟩ := c.def_ 0 (d := hd_p_either) rfl
  exact ⟨_, fd, F, He.glo_ok X G (c.fact 0 (f := .glo "either") rfl)⟩
theorem dn_p_switches_of (X : K.In h) (G : h.Ns mainGlobals mg) (c : He.SaysD hfa hfn K) : Dn K mg "switches_of" s_p_switches_of := by
  obtain ⟨fd, F⟩ := c.def_ 1 (d := hd_p_switches_of) rfl
  exact ⟨_, fd, F, He.glo_ok X G (c.fact 1 (f := .glo "switches_of") rfl)⟩
theorem dn_p__side (X : K.In h) (G : h.Ns mainGlobals mg) (c : He.SaysD hfa hfn K) : Dn K mg "_side" s_p__side := by
  obtain ⟨fd, F⟩ := c.def_ 2 (d := hd_p__side) rfl
  exact ⟨_, fd, F, He.glo_ok X G (c.fact 2 (f := .glo "_side") rfl)⟩
theorem dn_p__node (X : K.In h) (G : h.Ns mainGlobals mg) (c : He.SaysD hfa hfn K) : Dn K mg "_node" s_p__node := by
  obtain ⟨fd, F⟩ := c.def_ 3 (d := hd_p__node) rfl
  exact ⟨_, fd, F, He.glo_ok X G (c.fact 3 (f := .glo "_node") rfl)⟩
theorem dn_p_outcome_condition (X : K.In h) (G : h.Ns mainGlobals mg) (c : He.SaysD hfa hfn K) : Dn K mg "outcome_condition" s_p_outcome_condition := by
  obtain ⟨fd, F⟩ := c.def_ 4 (d := hd_p_outcome_condition) rfl
  exact ⟨_, fd, F, He.glo_ok X G (c.fact 4 (f := .glo "outcome_condition") rfl)⟩
theorem dn_p_deciding_switches (X : K.In h) (G : h.Ns mainGlobals mg) (c : He.SaysD hfa hfn K) : Dn K mg "deciding_switches" s_p_deciding_switches := by
  obtain ⟨fd, F⟩ := c.def_ 5 (d := hd_p_deciding_switches) rfl
  exact ⟨_, fd, F, He.glo_ok X G (c.fact 5 (f := .glo "deciding_switches") rfl)⟩
theorem dn_l_gd_settings (X : K.In h) (G : h.Ns mainGlobals mg) (c : He.SaysD hfa hfn K) : Dn K mg "_law_gd_settings" s_l_gd_settings := by
  obtain ⟨fd, F⟩ := c.def_ 6 (d := hd_l_gd_settings) rfl
  exact ⟨_, fd, F, He.glo_ok X G (c.fact 6 (f := .glo "_law_gd_settings") rfl)⟩
theorem dn_l_gd_grown (X : K.In h) (G : h.Ns mainGlobals mg) (c : He.SaysD hfa hfn K) : Dn K mg "_law_gd_grown" s_l_gd_grown := by
  obtain ⟨fd, F⟩ := c.def_ 7 (d := hd_l_gd_grown) rfl
  exact ⟨_, fd, F, He.glo_ok X G (c.fact 7 (f := .glo "_law_gd_grown") rfl)⟩
theorem dn_l_gd_table (X : K.In h) (G : h.Ns mainGlobals mg) (c : He.SaysD hfa hfn K) : Dn K mg "_law_gd_table" s_l_gd_table := by
  obtain ⟨fd, F⟩ := c.def_ 8 (d := hd_l_gd_table) rfl
  exact ⟨_, fd, F, He.glo_ok X G (c.fact 8 (f := .glo "_law_gd_table") rfl)⟩
theorem dn_l_gd_switches (X : K.In h) (G : h.Ns mainGlobals mg) (c : He.SaysD hfa hfn K) : Dn K mg "_law_gd_switches" s_l_gd_switches := by
  obtain ⟨fd, F⟩ := c.def_ 9 (d := hd_l_gd_switches) rfl
  exact ⟨_, fd, F, He.glo_ok X G (c.fact 9 (f := .glo "_law_gd_switches") rfl)⟩
theorem dn_l_hand (X : K.In h) (G : h.Ns mainGlobals mg) (c : He.SaysD hfa hfn K) : Dn K mg "_law_hand" s_l_hand := by
  obtain ⟨fd, F⟩ := c.def_ 10 (d := hd_l_hand) rfl
  exact ⟨_, fd, F, He.glo_ok X G (c.fact 10 (f := .glo "_law_hand") rfl)⟩
theorem dn_l_stirred (X : K.In h) (G : h.Ns mainGlobals mg) (c : He.SaysD hfa hfn K) : Dn K mg "_law_stirred" s_l_stirred := by
  obtain ⟨fd, F⟩ := c.def_ 11 (d := hd_l_stirred) rfl
  exact ⟨_, fd, F, He.glo_ok X G (c.fact 11 (f := .glo "_law_stirred") rfl)⟩
theorem dn_l_take (X : K.In h) (G : h.Ns mainGlobals mg) (c : He.SaysD hfa hfn K) : Dn K mg "_law_take" s_l_take := by
  obtain ⟨fd, F⟩ := c.def_ 12 (d := hd_l_take) rfl
  exact ⟨_, fd, F, He.glo_ok X G (c.fact 12 (f := .glo "_law_take") rfl)⟩
theorem dn_l_pick (X : K.In h) (G : h.Ns mainGlobals mg) (c : He.SaysD hfa hfn K) : Dn K mg "_law_pick" s_l_pick := by
  obtain ⟨fd, F⟩ := c.def_ 13 (d := hd_l_pick) rfl
  exact ⟨_, fd, F, He.glo_ok X G (c.fact 13 (f := .glo "_law_pick") rfl)⟩
theorem dn_l_shuffled (X : K.In h) (G : h.Ns mainGlobals mg) (c : He.SaysD hfa hfn K) : Dn K mg "_law_shuffled" s_l_shuffled := by
  obtain ⟨fd, F⟩ := c.def_ 14 (d := hd_l_shuffled) rfl
  exact ⟨_, fd, F, He.glo_ok X G (c.fact 14 (f := .glo "_law_shuffled") rfl)⟩
theorem dn_p_law (X : K.In h) (G : h.Ns mainGlobals mg) (c : He.SaysD hfa hfn K) : Dn K mg "law" s_p_law := by
  obtain ⟨fd, F⟩ := c.def_ 15 (d := hd_p_law) rfl
  exact ⟨_, fd, F, He.glo_ok X G (c.fact 15 (f := .glo "law") rfl)⟩
theorem fr_min (X : K.In h) (G : h.Ns mainGlobals mg) (c : He.SaysD hfa hfn K) : mg "min" = none := He.free_ok X G (c.fact 16 (f := .free "min") rfl)
theorem fr_isinstance (X : K.In h) (G : h.Ns mainGlobals mg) (c : He.SaysD hfa hfn K) : mg "isinstance" = none := He.free_ok X G (c.fact 17 (f := .free "isinstance") rfl)
theorem fr_tuple (X : K.In h) (G : h.Ns mainGlobals mg) (c : He.SaysD hfa hfn K) : mg "tuple" = none := He.free_ok X G (c.fact 18 (f := .free "tuple") rfl)
theorem fr_sorted (X : K.In h) (G : h.Ns mainGlobals mg) (c : He.SaysD hfa hfn K) : mg "sorted" = none := He.free_ok X G (c.fact 19 (f := .free "sorted") rfl)
theorem fr_len (X : K.In h) (G : h.Ns mainGlobals mg) (c : He.SaysD hfa hfn K) : mg "len" = none := He.free_ok X G (c.fact 20 (f := .free "len") rfl)
theorem fr_range (X : K.In h) (G : h.Ns mainGlobals mg) (c : He.SaysD hfa hfn K) : mg "range" = none := He.free_ok X G (c.fact 21 (f := .free "range") rfl)
theorem fr_int (X : K.In h) (G : h.Ns mainGlobals mg) (c : He.SaysD hfa hfn K) : mg "int" = none := He.free_ok X G (c.fact 22 (f := .free "int") rfl)
theorem fr_abs (X : K.In h) (G : h.Ns mainGlobals mg) (c : He.SaysD hfa hfn K) : mg "abs" = none := He.free_ok X G (c.fact 23 (f := .free "abs") rfl)
theorem fr_list (X : K.In h) (G : h.Ns mainGlobals mg) (c : He.SaysD hfa hfn K) : mg "list" = none := He.free_ok X G (c.fact 24 (f := .free "list") rfl)
theorem henv (X : K.In h) (G : h.Ns mainGlobals mg) (c : He.SaysD hfa hfn K) : Env0 K mg := { len := fr_len X G c, int := fr_int X G c, rng := fr_range X G c, srt := fr_sorted X G c, tup := fr_tuple X G c, lst := fr_list X G c, min := fr_min X G c, abs := fr_abs X G c, isi := fr_isinstance X G c, d_either := dn_p_either X G c, d_sw := dn_p_switches_of X G c, d_side := dn_p__side X G c, d_node := dn_p__node X G c, d_oc := dn_p_outcome_condition X G c, d_dc := dn_p_deciding_switches X G c, l_gs := dn_l_gd_settings X G c, l_gg := dn_l_gd_grown X G c, l_gt := dn_l_gd_table X G c, l_gw := dn_l_gd_switches X G c, l_hand := dn_l_hand X G c, l_st := dn_l_stirred X G c, l_take := dn_l_take X G c, l_pk := dn_l_pick X G c, l_sh := dn_l_shuffled X G c, l_law := dn_p_law X G c }
def spLaw (K : PySem.W.Frag) : Sp := fun vs H Q _ => ∃ (a : Addr) (ns : List Int), vs = [.ref a] ∧ SqL K H a (ns.map V.int) ∧ ns.length ≤ 63 ∧ ∀ H', Q (.bl true) H'
theorem hfacts {P : Program} {w : World} {f : Addr} (X : K.In h) (G : h.Ns mainGlobals mg) (hlaw : mg ("law" : Str) = some (.ref f)) (c : He.SaysD hfa hfn K) :
    ∃ fd : FuncData, (∀ (s : Shared) (v : Value), BindsTo s fd ⟨[v], []⟩ [("_law_script", v)]) ∧ ∀ base : Heap, K.In base → base.Ns mainGlobals mg → FnOk P w K mg base CX0 45 f fd ["_law_script"] (spLaw K) := by
  have E := henv X G c
  obtain ⟨fd, F⟩ := c.def_ 15 (d := hd_p_law) rfl
  have e := hlaw.symm.trans (He.glo_ok X G (c.fact 15 (f := .glo "law") rfl))
  cases e
  have b := FunD.bindsA (ps := ["_law_script"]) F fun _ _ _ _ _ _ us hl => match us, hl with | [_], _ => rfl
  exact ⟨fd, fun s v => b s [v] rfl, fun base _ _ => (law_ok E F).imp fun vs H Q E' h => law_sp h⟩
end
end K57
open PySem PySem.W PySem.Calls PyProof.Rows
theorem PySem.Challenge.cw_eacharm_k57_outcomes_in_tables_holds : PySem.Challenge.rw_eacharm_k57_outcomes_in_tables.Holds := by
  w_on; o_law
  refine HandSHeadRun.head_any (r := OpenLaw.row PySem.Challenge.rw_eacharm_k57_outcomes_in_tables) (q := view (OpenLaw.row PySem.Challenge.rw_eacharm_k57_outcomes_in_tables).prog [18]) (H := K57.hk) (ob := K57.hob) (M := 3000) (loose := ["either", "switches_of", "_side", "_node", "outcome_condition", "deciding_switches", "_law_gd_settings", "_law_gd_grown", "_law_gd_table", "_law_gd_switches", "_law_hand", "_law_stirred", "_law_take", "_law_pick", "_law_shuffled"]) (d := HandSHeadRun.topDef (OpenLaw.row PySem.Challenge.rw_eacharm_k57_outcomes_in_tables).prog 18) (kwd := []) K57.hob_eq
    (by kernel_rfl) (fun s => by kernel_rfl) K57.hrun (by kernel_rfl) (by kernel_rfl) (by kernel_rfl) (by rfl) (by first | assumption | decide +kernel) (by decide +kernel) ⟨rfl, rfl, rfl, rfl, rfl, by decide +kernel⟩ ?hw ?hc
  case hw => w_witness2
  case hc =>
    refine L2.walk_ofE (l := PySem.Challenge.rw_eacharm_k57_outcomes_in_tables) (n := 63) (k := 45) (x := "_law_script") (CX := L2.CX0) rfl (by decide) (by kernel_rfl) ⟨rfl, by decide, by decide⟩ ?F (fun _ _ _ _ z => z)
    intro w mg fa h Y G hmg0
    obtain ⟨K, KX, c⟩ := Y
    have hmg : mg ("law" : PySem.Str) = some (.ref fa) := by
      have e : (HandSHeadRun.topDef (OpenLaw.row PySem.Challenge.rw_eacharm_k57_outcomes_in_tables).prog 18).name = ("law" : PySem.Str) := by kernel_rfl
      rw [← e]
      exact hmg0
    obtain ⟨fd, hb, hF⟩ := K57.hfacts (P := (PySem.Challenge.rw_eacharm_k57_outcomes_in_tables).prog) (w := w) KX G hmg c
    exact ⟨K, fd, K57.spLaw K, KX, hb, fun H a ns hl _ hS => ⟨a, ns, rfl, hS, hl, fun _ => rfl⟩, hF⟩
