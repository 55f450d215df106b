import PyProof.Rows.All
import Wide.All
import OpenK.AllK
import Wide.FinOn
import HandS.ForMost
import HandS.SortInts
import HandS.Walk
import HandS.Star
import HandS.IsInst
import HandS.Deep
import PyProof.SumAny
import PyProof.ZipIter
import KE.KStar
import HandS.SetFor
import HandS.Strs
import HandS.Conv
import HandS.Wide
import HandS.Ends
import HandS.EndBits
import HandS.SortOrd
import HandS.SetBool
import HandS.Comp
import HandS.Zip
import HandS.Iter
import HandS.RevRange
import HandS.Flow
import PyProof.WalkInts
import KE.KMinBuiltin
import HandS.DictTup
import KE.KDictDisplayH
import HandS.TupSets
import PySem.Challenge.RW_halftables_k04_whole_tables_that_rise
set_option Elab.async false
set_option linter.all false
set_option maxRecDepth 100000
set_option maxHeartbeats 4000000

/-! G: a logic over pure data and a small explicit heap of lists that may change. -/
namespace G
open PySem PySem.Spec PyProof.Rows L2

/-! ### data that never changes: F is the part of the heap that is frozen for good -/
mutual
inductive Dt (F : Hp) : V → PyData → Prop
  | non : Dt F .non .none
  | bl (b : Bool) : Dt F (.bl b) (.bool b)
  | int (i : Int) : Dt F (.int i) (.int i)
  | str (x : Str) : Dt F (.str x) (.str x)
  | lst {a : Addr} {xs : List V} {ds : List PyData} : F a = some (.lst xs) → DtA F xs ds → Dt F (.ref a) (.list ds)
  | tup {a : Addr} {xs : List V} {ds : List PyData} : F a = some (.tup xs) → DtA F xs ds → Dt F (.ref a) (.tuple ds)
inductive DtA (F : Hp) : List V → List PyData → Prop
  | nil : DtA F [] []
  | cons {v : V} {vs : List V} {d : PyData} {ds : List PyData} : Dt F v d → DtA F vs ds → DtA F (v :: vs) (d :: ds)
end
section
variable {F F' H : Hp}
mutual
theorem Dt.mono (e : Same F F') : ∀ {v : V} {d : PyData}, Dt F v d → Dt F' v d
  | _, _, .non => .non
  | _, _, .bl b => .bl b
  | _, _, .int i => .int i
  | _, _, .str x => .str x
  | _, _, .lst h a => .lst (e _ _ h) (DtA.mono e a)
  | _, _, .tup h a => .tup (e _ _ h) (DtA.mono e a)
theorem DtA.mono (e : Same F F') : ∀ {vs : List V} {ds : List PyData}, DtA F vs ds → DtA F' vs ds
  | _, _, .nil => .nil
  | _, _, .cons h a => .cons (Dt.mono e h) (DtA.mono e a)
end
mutual
theorem Dt.dp {K : PySem.W.Frag} : ∀ {v : V} {d : PyData}, Dt H v d → Dp K H v d
  | _, _, .non => .non
  | _, _, .bl b => .bl b
  | _, _, .int i => .int i
  | _, _, .str x => .str x
  | _, _, .lst h a => .lst (.of h) (DtA.dp a)
  | _, _, .tup h a => .tup (.of h) (DtA.dp a)
theorem DtA.dp {K : PySem.W.Frag} : ∀ {vs : List V} {ds : List PyData}, DtA H vs ds → DpAll K H vs ds
  | _, _, .nil => .nil
  | _, _, .cons h a => .cons (Dt.dp h) (DtA.dp a)
end
theorem DtA.length : ∀ {vs : List V} {ds : List PyData}, DtA F vs ds → vs.length = ds.length
  | _, _, .nil => rfl
  | _, _, .cons _ a => congrArg (· + 1) (DtA.length a)
theorem DtA.get : ∀ {vs : List V} {ds : List PyData} {i : Nat} {d : PyData}, DtA F vs ds → ds[i]? = some d → ∃ v, vs[i]? = some v ∧ Dt F v d
  | _, _, i, d, .nil, h => by simp at h
  | _, _, 0, d, .cons h a, e => by simp at e; subst e; exact ⟨_, rfl, h⟩
  | _, _, i + 1, d, .cons h a, e => by
    obtain ⟨v, e1, e2⟩ := DtA.get (i := i) (d := d) a (by simpa using e)
    exact ⟨v, by simpa using e1, e2⟩
theorem DtA.append : ∀ {vs ws : List V} {ds es : List PyData}, DtA F vs ds → DtA F ws es → DtA F (vs ++ ws) (ds ++ es)
  | _, _, _, _, .nil, b => b
  | _, _, _, _, .cons h a, b => .cons h (DtA.append a b)
theorem DtA.drop : ∀ {vs : List V} {ds : List PyData} (n : Nat), DtA F vs ds → DtA F (vs.drop n) (ds.drop n)
  | _, _, 0, a => a
  | _, _, n + 1, .nil => .nil
  | _, _, n + 1, .cons h a => DtA.drop n a
theorem DtA.take : ∀ {vs : List V} {ds : List PyData} (n : Nat), DtA F vs ds → DtA F (vs.take n) (ds.take n)
  | _, _, 0, a => .nil
  | _, _, n + 1, .nil => .nil
  | _, _, n + 1, .cons h a => .cons h (DtA.take n a)
theorem DtA.ints : ∀ {vs : List V} {ns : List Int}, DtA F vs (ns.map PyData.int) → vs = ns.map V.int
  | _, [], .nil => rfl
  | _, n :: ns, .cons h a => by
    cases h
    rw [DtA.ints a]
    rfl
theorem DtA.of_ints : ∀ (ns : List Int), DtA F (ns.map V.int) (ns.map PyData.int)
  | [] => .nil
  | n :: ns => .cons (.int n) (DtA.of_ints ns)
theorem DtA.bools : ∀ {vs : List V} {ns : List Bool}, DtA F vs (ns.map PyData.bool) → vs = ns.map V.bl
  | _, [], .nil => rfl
  | _, n :: ns, .cons h a => by
    cases h
    rw [DtA.bools a]
    rfl
end

/-! ### results: data, a bare value, or nothing known; the changing lists -/
inductive SD where
  | un
  | pu (d : PyData)
  | rf (v : V)
  | pv (v : V) (d : PyData)
  | tp (vs : List V)
  | ob (C : Addr) (ds : List (Str × PyData))
/-- the fields of a frozen object, told as data -/
abbrev DFld (F : Hp) (a : Str × V) (b : Str × PyData) : Prop := a.1 = b.1 ∧ Dt F a.2 b.2
/-- a name's place -/
def SOk (F : Hp) : Option V → SD → Prop
  | _, .un => True
  | some v, .pu d => Dt F v d
  | some v, .rf u => v = u
  | some v, .pv u d => v = u ∧ Dt F u d
  | some v, .tp vs => ∃ a, v = .ref a ∧ F a = some (.tup vs)
  | some v, .ob C ds => ∃ a dx vs, v = .ref a ∧ F a = some (.ins C dx vs) ∧ Paired (DFld F) vs ds
  | none, .pu _ => False
  | none, .rf _ => False
  | none, .pv _ _ => False
  | none, .tp _ => False
  | none, .ob _ _ => False
abbrev VOk (F : Hp) (v : V) (r : SD) : Prop := SOk F (some v) r
inductive MO where
  | lst (xs : List SD)
  | frz (xs : List V)
  | dct (kvs : List (List Key × SD))
  | obj (C : Addr) (fs : List (Str × SD))
  | fdc (o : Obj) (vs : List (List Key × V)) (kvs : List (List Key × SD))
  | dck (kvs : List (Key × SD))
  | fdk (o : Obj) (vs : List (Key × V)) (kvs : List (Key × SD))
/-- the entries of a dict whose keys are numbers or texts -/
abbrev KEnt (F : Hp) (a : Key × V) (b : Key × SD) : Prop := a.1 = b.1 ∧ SOk F (some a.2) b.2
/-- the entries of a dict, told of data -/
abbrev DEnt (F : Hp) (a : List Key × V) (b : List Key × SD) : Prop := a.1 = b.1 ∧ VOk F a.2 b.2
/-- the fields of an object, told of data -/
abbrev FEnt (F : Hp) (a : Str × V) (b : Str × SD) : Prop := a.1 = b.1 ∧ VOk F a.2 b.2
abbrev Mem := List (Addr × MO)
def MOk (F H : Hp) (p : Addr × MO) : Prop := match p.2 with
  | .lst xs => ∃ vs, H p.1 = some (.lst vs) ∧ Paired (VOk F) vs xs
  | .frz xs => ∃ o, H p.1 = some (.frz o (.lst xs))
  | .dct kvs => ∃ vs, H p.1 = some (.dT vs) ∧ Paired (DEnt F) vs kvs
  | .obj C fs => ∃ dx vs, H p.1 = some (.ins C dx vs) ∧ Paired (FEnt F) vs fs
  | .fdc o vs kvs => H p.1 = some (.frz o (.dT vs)) ∧ Paired (DEnt F) vs kvs
  | .dck kvs => ∃ vs, H p.1 = some (.dK vs) ∧ Paired (KEnt F) vs kvs
  | .fdk o vs kvs => H p.1 = some (.frz o (.dK vs)) ∧ Paired (KEnt F) vs kvs
structure Bs where
  H0 : Hp
  O0 : Addr → Prop
  F0 : Hp
structure Wd (B : Bs) (F H : Hp) (M : Mem) : Prop where
  fh : Same F H
  f0 : Same B.F0 F
  fnew : ∀ a o, F a = some o → (B.F0 a = some o ∨ ∃ xs, o = HO.tup xs) ∨ B.H0 a = none ∨ B.O0 a
  keep : ∀ a o, B.H0 a = some o → ¬ B.O0 a → H a = some o
  dom : ∀ a, H a = none → B.H0 a = none
  mem : ∀ p ∈ M, F p.1 = none ∧ MOk F H p
  nd : (M.map (·.1)).Nodup
  new : ∀ p ∈ M, B.H0 p.1 = none ∨ B.O0 p.1
abbrev here (F H : Hp) (M : Mem) : Bs := ⟨H, fun a => a ∈ M.map (·.1), F⟩

section
variable {F F' H H' : Hp} {B : Bs} {M M' Mr : Mem} {v : V} {r : SD}
theorem SOk.mono (e : Same F F') : ∀ {o : Option V} {r : SD}, SOk F o r → SOk F' o r
  | _, .un, _ => trivial
  | some _, .pu _, h => Dt.mono e h
  | some _, .rf _, h => h
  | some _, .pv _ _, h => ⟨h.1, Dt.mono e h.2⟩
  | none, .pu _, h => h
  | none, .rf _, h => h
  | none, .pv _ _, h => h
  | some _, .tp _, ⟨a, h1, h2⟩ => ⟨a, h1, e _ _ h2⟩
  | none, .tp _, h => h
  | some _, .ob _ _, ⟨a, dx, vs, h1, h2, h3⟩ => ⟨a, dx, vs, h1, e _ _ h2, Paired.mapP h3 fun _ _ q => ⟨q.1, Dt.mono e q.2⟩⟩
  | none, .ob _ _, h => h
theorem pMono (e : Same F F') {σ : List (Option V)} {ρ : List SD} (h : Paired (SOk F) σ ρ) : Paired (SOk F') σ ρ := Paired.mapP h fun _ _ q => q.mono e
theorem vMono (e : Same F F') {σ : List V} {ρ : List SD} (h : Paired (VOk F) σ ρ) : Paired (VOk F') σ ρ := Paired.mapP h fun _ _ q => SOk.mono e q
theorem MOk.mono {p : Addr × MO} (e : Same F F') (h : MOk F H p) (k : ∀ o, H p.1 = some o → H' p.1 = some o) : MOk F' H' p := by
  obtain ⟨a, mo⟩ := p
  cases mo with
  | lst xs =>
    obtain ⟨vs, h1, h2⟩ := h
    exact ⟨vs, k _ h1, vMono e h2⟩
  | frz xs =>
    obtain ⟨o, h1⟩ := h
    exact ⟨o, k _ h1⟩
  | dct kvs =>
    obtain ⟨vs, h1, h2⟩ := h
    exact ⟨vs, k _ h1, Paired.mapP h2 fun _ _ q => ⟨q.1, SOk.mono e q.2⟩⟩
  | obj C fs =>
    obtain ⟨dx, vs, h1, h2⟩ := h
    exact ⟨dx, vs, k _ h1, Paired.mapP h2 fun _ _ q => ⟨q.1, SOk.mono e q.2⟩⟩
  | fdc o vs kvs =>
    obtain ⟨h1, h2⟩ := h
    exact ⟨k _ h1, Paired.mapP h2 fun _ _ q => ⟨q.1, SOk.mono e q.2⟩⟩
  | dck kvs =>
    obtain ⟨vs, h1, h2⟩ := h
    exact ⟨vs, k _ h1, Paired.mapP h2 fun _ _ q => ⟨q.1, SOk.mono e q.2⟩⟩
  | fdk o vs kvs =>
    obtain ⟨h1, h2⟩ := h
    exact ⟨k _ h1, Paired.mapP h2 fun _ _ q => ⟨q.1, SOk.mono e q.2⟩⟩
theorem MOk.notup {p : Addr × MO} (h : MOk F H p) {xs : List V} : H p.1 ≠ some (.tup xs) := by
  obtain ⟨a, mo⟩ := p
  intro e
  cases mo with
  | lst xs =>
    obtain ⟨vs, h1, h2⟩ := h
    exact nomatch h1.symm.trans e
  | frz xs =>
    obtain ⟨o, h1⟩ := h
    exact nomatch h1.symm.trans e
  | dct kvs =>
    obtain ⟨vs, h1, h2⟩ := h
    exact nomatch h1.symm.trans e
  | obj C fs =>
    obtain ⟨dx, vs, h1, h2⟩ := h
    exact nomatch h1.symm.trans e
  | fdc o vs kvs =>
    obtain ⟨h1, h2⟩ := h
    exact nomatch h1.symm.trans e
  | dck kvs =>
    obtain ⟨vs, h1, h2⟩ := h
    exact nomatch h1.symm.trans e
  | fdk o vs kvs =>
    obtain ⟨h1, h2⟩ := h
    exact nomatch h1.symm.trans e
theorem MOk.there {p : Addr × MO} (h : MOk F H p) : ∃ o, H p.1 = some o := by
  obtain ⟨a, mo⟩ := p
  cases mo with
  | lst xs =>
    obtain ⟨vs, h1, h2⟩ := h
    exact ⟨_, h1⟩
  | frz xs =>
    obtain ⟨o, h1⟩ := h
    exact ⟨_, h1⟩
  | dct kvs =>
    obtain ⟨vs, h1, h2⟩ := h
    exact ⟨_, h1⟩
  | obj C fs =>
    obtain ⟨dx, vs, h1, h2⟩ := h
    exact ⟨_, h1⟩
  | fdc o vs kvs =>
    obtain ⟨h1, h2⟩ := h
    exact ⟨_, h1⟩
  | dck kvs =>
    obtain ⟨vs, h1, h2⟩ := h
    exact ⟨_, h1⟩
  | fdk o vs kvs =>
    obtain ⟨h1, h2⟩ := h
    exact ⟨_, h1⟩
theorem Wd.here (W : Wd B F H M) : Wd (here F H M) F H M where
  fh := W.fh
  f0 := fun _ _ h => h
  fnew := fun a o h => .inl (.inl h)
  keep := fun a o h _ => h
  dom := fun a h => h
  mem := W.mem
  nd := W.nd
  new := fun p hp => .inr (List.mem_map_of_mem hp)
/-- some of the changing lists are forgotten -/
theorem Wd.sub (W : Wd B F H M) (hs : List.Sublist M' M) : Wd B F H M' where
  fh := W.fh
  f0 := W.f0
  fnew := W.fnew
  keep := W.keep
  dom := W.dom
  mem := fun p hp => W.mem p (hs.subset hp)
  nd := W.nd.sublist (hs.map _)
  new := fun p hp => W.new p (hs.subset hp)
theorem Wd.perm (W : Wd B F H M) (hp : M.Perm M') : Wd B F H M' where
  fh := W.fh
  f0 := W.f0
  fnew := W.fnew
  keep := W.keep
  dom := W.dom
  mem := fun p h => W.mem p (hp.symm.subset h)
  nd := (hp.map _).nodup_iff.mp W.nd
  new := fun p h => W.new p (hp.symm.subset h)
/-- THE FRAME: what ran over Ma alone has left Mr as it was -/
theorem Wd.frame {Ma : Mem} (W : Wd B F H (Ma ++ Mr)) (W' : Wd (G.here F H Ma) F' H' M') : Wd B F' H' (M' ++ Mr) := by
  have hnd : (Ma.map (·.1) ++ Mr.map (·.1)).Nodup := by
    have h := W.nd
    rwa [List.map_append] at h
  have dis : ∀ p ∈ Mr, p.1 ∉ Ma.map (·.1) := fun p hp hm => by
    have h := (List.nodup_append.mp hnd).2.2
    exact h _ hm _ (List.mem_map_of_mem hp) rfl
  have kr : ∀ p ∈ Mr, ∀ o, H p.1 = some o → H' p.1 = some o := fun p hp o h => W'.keep p.1 o h (dis p hp)
  refine ⟨W'.fh, fun a o h => W'.f0 a o (W.f0 a o h), fun a o h => ?_, fun a o h hn => ?_, fun a h => W.dom a (W'.dom a h), fun p hp => ?_, ?_, fun p hp => ?_⟩
  · rcases W'.fnew a o h with (q | q) | q | q
    · exact W.fnew a o q
    · exact .inl (.inr q)
    · exact .inr (.inl (W.dom a q))
    · obtain ⟨p, hp, e⟩ := List.mem_map.mp q
      subst e
      rcases W.new p (List.mem_append_left _ hp) with z | z
      · exact .inr (.inl z)
      · exact .inr (.inr z)
  · refine W'.keep a o (W.keep a o h hn) fun q => ?_
    obtain ⟨p, hp, e⟩ := List.mem_map.mp q
    subst e
    rcases W.new p (List.mem_append_left _ hp) with z | z
    · rw [h] at z
      cases z
    · exact hn z
  · rcases List.mem_append.mp hp with q | q
    · exact W'.mem p q
    · obtain ⟨f1, f2⟩ := W.mem p (List.mem_append_right _ q)
      refine ⟨?_, f2.mono W'.f0 (kr p q)⟩
      cases e : F' p.1 with
      | none => rfl
      | some o =>
        obtain ⟨o', ho⟩ := f2.there
        rcases W'.fnew _ _ e with (z | z) | z | z
        · have z : F p.1 = some o := z
          rw [f1] at z
          cases z
        · obtain ⟨xs, rfl⟩ := z
          have h1 := W'.fh _ _ e
          rw [kr p q _ ho] at h1
          exact absurd (ho.trans h1) f2.notup
        · have z : H p.1 = none := z
          rw [ho] at z
          cases z
        · exact absurd z (dis p q)
  · rw [List.map_append]
    refine List.nodup_append.mpr ⟨W'.nd, (List.nodup_append.mp hnd).2.1, fun a ha b hb e => ?_⟩
    subst e
    obtain ⟨p, hp, e⟩ := List.mem_map.mp ha
    obtain ⟨q, hq, e'⟩ := List.mem_map.mp hb
    obtain ⟨o', ho⟩ := (W.mem q (List.mem_append_right _ hq)).2.there
    rcases W'.new p hp with z | z
    · have z : H p.1 = none := z
      rw [e, ← e', ho] at z
      cases z
    · have z : p.1 ∈ Ma.map (·.1) := z
      rw [e, ← e'] at z
      exact dis q hq z
  · rcases List.mem_append.mp hp with q | q
    · rcases W'.new p q with z | z
      · exact .inl (W.dom _ z)
      · have z : p.1 ∈ Ma.map (·.1) := z
        obtain ⟨p', hp', e⟩ := List.mem_map.mp z
        have h := W.new p' (List.mem_append_left _ hp')
        rwa [e] at h
    · exact W.new p (List.mem_append_right _ q)
theorem Wd.trans (W : Wd B F H M) (W' : Wd (G.here F H M) F' H' M') : Wd B F' H' M' := by
  have h := Wd.frame (Mr := []) (by rwa [List.append_nil]) W'
  rwa [List.append_nil] at h
theorem Wd.fresh (W : Wd B F H M) {p : Addr} (h : H p = none) : F p = none ∧ B.H0 p = none ∧ p ∉ M.map (·.1) := by
  refine ⟨?_, W.dom p h, fun hm => ?_⟩
  · cases e : F p with
    | none => rfl
    | some o =>
      rw [W.fh _ _ e] at h
      cases h
  · obtain ⟨q, hq, e⟩ := List.mem_map.mp hm
    obtain ⟨o, ho⟩ := (W.mem q hq).2.there
    rw [e, h] at ho
    cases ho
/-- a new object that is not followed -/
theorem Wd.other (W : Wd B F H M) {p : Addr} {o : HO} (h : H p = none) : Wd B F (upd H p o) M := by
  obtain ⟨f1, f2, f3⟩ := W.fresh h
  refine ⟨fun a u e => ?_, W.f0, W.fnew, fun a u e n => ?_, fun a e => ?_, fun q hq => ?_, W.nd, W.new⟩
  · rw [upd_ne (ne_of_none (W.fh _ _ e) h)]
    exact W.fh _ _ e
  · have z := W.keep a u e n
    rw [upd_ne (ne_of_none z h)]
    exact z
  · by_cases z : a = p
    · rw [z, upd_same] at e
      cases e
    · rw [upd_ne z] at e
      exact W.dom a e
  · obtain ⟨g1, g2⟩ := W.mem q hq
    refine ⟨g1, g2.mono (fun _ _ h => h) fun u e => ?_⟩
    rw [upd_ne (ne_of_none e h)]
    exact e
/-- a new object that is frozen at once -/
theorem Wd.froz (W : Wd B F H M) {p : Addr} {o : HO} (h : H p = none) : Wd B (upd F p o) (upd H p o) M ∧ Same F (upd F p o) := by
  obtain ⟨f1, f2, f3⟩ := W.fresh h
  have W2 := W.other (o := o) h
  have sf : Same F (upd F p o) := fun a u e => by
    rw [upd_ne (ne_of_none e f1)]
    exact e
  refine ⟨⟨fun a u e => ?_, fun a u e => sf a u (W.f0 a u e), fun a u e => ?_, W2.keep, W2.dom, fun q hq => ?_, W.nd, W.new⟩, sf⟩
  · by_cases z : a = p
    · rw [z, upd_same] at e ⊢
      exact e
    · rw [upd_ne z] at e
      exact W2.fh a u e
  · by_cases z : a = p
    · rw [z]
      exact .inr (.inl f2)
    · rw [upd_ne z] at e
      exact W.fnew a u e
  · obtain ⟨g1, g2⟩ := W2.mem q hq
    refine ⟨?_, g2.mono sf fun u e => e⟩
    rw [upd_ne]
    · exact g1
    · intro z
      exact f3 (List.mem_map.mpr ⟨q, hq, z⟩)
/-- a new list that may change -/
theorem Wd.newl (W : Wd B F H M) {p : Addr} {vs : List V} {xs : List SD} (h : H p = none) (hx : Paired (VOk F) vs xs) : Wd B F (upd H p (.lst vs)) ((p, .lst xs) :: M) := by
  obtain ⟨f1, f2, f3⟩ := W.fresh h
  have W2 := W.other (o := .lst vs) h
  refine ⟨W2.fh, W2.f0, W2.fnew, W2.keep, W2.dom, fun q hq => ?_, ?_, fun q hq => ?_⟩
  · rcases List.mem_cons.mp hq with z | z
    · rw [z]
      exact ⟨f1, vs, upd_same, hx⟩
    · exact W2.mem q z
  · rw [List.map_cons]
    exact List.nodup_cons.mpr ⟨f3, W.nd⟩
  · rcases List.mem_cons.mp hq with z | z
    · rw [z]
      exact .inl f2
    · exact W2.new q z
/-- the first of the changing lists is written -/
theorem Wd.write {p : Addr} {xs ys : List SD} {ws : List V} (W : Wd B F H ((p, .lst xs) :: M)) (hx : Paired (VOk F) ws ys) : Wd B F (upd H p (.lst ws)) ((p, .lst ys) :: M) := by
  obtain ⟨f1, vs, f2, f3⟩ := W.mem (p, .lst xs) List.mem_cons_self
  have f1 : F p = none := f1
  have f2 : H p = some (.lst vs) := f2
  have nd : p ∉ M.map (·.1) ∧ (M.map (·.1)).Nodup := by
    have h := W.nd
    rw [List.map_cons] at h
    exact List.nodup_cons.mp h
  have nw := W.new (p, .lst xs) List.mem_cons_self
  refine ⟨fun a u e => ?_, W.f0, W.fnew, fun a u e n => ?_, fun a e => ?_, fun q hq => ?_, ?_, fun q hq => ?_⟩
  · rw [upd_ne (ne_of_none e f1)]
    exact W.fh _ _ e
  · have hne : a ≠ p := fun z => by
      subst z
      rcases nw with q | q
      · have q : B.H0 a = none := q
        rw [e] at q
        cases q
      · exact n q
    rw [upd_ne hne]
    exact W.keep a u e n
  · by_cases z : a = p
    · rw [z, upd_same] at e
      cases e
    · rw [upd_ne z] at e
      exact W.dom a e
  · rcases List.mem_cons.mp hq with z | z
    · rw [z]
      exact ⟨f1, ws, upd_same, hx⟩
    · obtain ⟨g1, g2⟩ := W.mem q (List.mem_cons_of_mem _ z)
      refine ⟨g1, g2.mono (fun _ _ h => h) fun u e => ?_⟩
      rw [upd_ne]
      · exact e
      · intro y
        exact nd.1 (List.mem_map.mpr ⟨q, z, y⟩)
  · rw [List.map_cons]
    exact List.nodup_cons.mpr nd
  · rcases List.mem_cons.mp hq with z | z
    · rw [z]
      exact nw
    · exact W.new q (List.mem_cons_of_mem _ z)
/-- the first of the changing dicts is written -/
theorem Wd.writeD {p : Addr} {xs ys : List (List Key × SD)} {ws : List (List Key × V)} (W : Wd B F H ((p, .dct xs) :: M)) (hx : Paired (DEnt F) ws ys) : Wd B F (upd H p (.dT ws)) ((p, .dct ys) :: M) := by
  obtain ⟨f1, vs, f2, f3⟩ := W.mem (p, .dct xs) List.mem_cons_self
  have f1 : F p = none := f1
  have f2 : H p = some (.dT vs) := f2
  have nd : p ∉ M.map (·.1) ∧ (M.map (·.1)).Nodup := by
    have h := W.nd
    rw [List.map_cons] at h
    exact List.nodup_cons.mp h
  have nw := W.new (p, .dct xs) List.mem_cons_self
  refine ⟨fun a u e => ?_, W.f0, W.fnew, fun a u e n => ?_, fun a e => ?_, fun q hq => ?_, ?_, fun q hq => ?_⟩
  · rw [upd_ne (ne_of_none e f1)]
    exact W.fh _ _ e
  · have hne : a ≠ p := fun z => by
      subst z
      rcases nw with q | q
      · have q : B.H0 a = none := q
        rw [e] at q
        cases q
      · exact n q
    rw [upd_ne hne]
    exact W.keep a u e n
  · by_cases z : a = p
    · rw [z, upd_same] at e
      cases e
    · rw [upd_ne z] at e
      exact W.dom a e
  · rcases List.mem_cons.mp hq with z | z
    · rw [z]
      exact ⟨f1, ws, upd_same, hx⟩
    · obtain ⟨g1, g2⟩ := W.mem q (List.mem_cons_of_mem _ z)
      refine ⟨g1, g2.mono (fun _ _ h => h) fun u e => ?_⟩
      rw [upd_ne]
      · exact e
      · intro y
        exact nd.1 (List.mem_map.mpr ⟨q, z, y⟩)
  · rw [List.map_cons]
    exact List.nodup_cons.mpr nd
  · rcases List.mem_cons.mp hq with z | z
    · rw [z]
      exact nw
    · exact W.new q (List.mem_cons_of_mem _ z)
/-- a new dict -/
theorem Wd.newd (W : Wd B F H M) {p : Addr} (h : H p = none) : Wd B F (upd H p (.dT [])) ((p, .dct []) :: M) := by
  obtain ⟨f1, f2, f3⟩ := W.fresh h
  have W2 := W.other (o := .dT []) h
  refine ⟨W2.fh, W2.f0, W2.fnew, W2.keep, W2.dom, fun q hq => ?_, ?_, fun q hq => ?_⟩
  · rcases List.mem_cons.mp hq with z | z
    · rw [z]
      exact ⟨f1, [], upd_same, .nil⟩
    · exact W2.mem q z
  · rw [List.map_cons]
    exact List.nodup_cons.mpr ⟨f3, W.nd⟩
  · rcases List.mem_cons.mp hq with z | z
    · rw [z]
      exact .inl f2
    · exact W2.new q z
/-- the first of the changing lists is frozen -/
theorem Wd.freeze {p : Addr} {ds : List PyData} (W : Wd B F H ((p, .lst (ds.map .pu)) :: M)) : ∃ F', Same F F' ∧ Wd B F' H M ∧ Dt F' (.ref p) (.list ds) := by
  obtain ⟨f1, vs, f2, f3⟩ := W.mem _ List.mem_cons_self
  have f1 : F p = none := f1
  have f2 : H p = some (.lst vs) := f2
  have nd : p ∉ M.map (·.1) ∧ (M.map (·.1)).Nodup := by
    have h := W.nd
    rw [List.map_cons] at h
    exact List.nodup_cons.mp h
  have sf : Same F (upd F p (.lst vs)) := fun a u e => by
    rw [upd_ne (ne_of_none e f1)]
    exact e
  have all : ∀ {vs : List V} {ds : List PyData}, Paired (VOk F) vs (ds.map .pu) → DtA F vs ds := by
    intro vs ds
    induction ds generalizing vs with
    | nil =>
      intro h
      cases h
      exact .nil
    | cons d ds ih =>
      intro h
      cases h with
      | cons a b => exact .cons a (ih b)
  refine ⟨upd F p (.lst vs), sf, ⟨fun a u e => ?_, fun a u e => sf a u (W.f0 a u e), fun a u e => ?_, W.keep, W.dom, fun q hq => ?_, nd.2, fun q hq => W.new q (List.mem_cons_of_mem _ hq)⟩, .lst upd_same (DtA.mono sf (all f3))⟩
  · by_cases z : a = p
    · rw [z, upd_same] at e
      rw [z, f2]
      exact e
    · rw [upd_ne z] at e
      exact W.fh a u e
  · by_cases z : a = p
    · rw [z]
      rcases W.new _ List.mem_cons_self with q | q
      · exact .inr (.inl q)
      · exact .inr (.inr q)
    · rw [upd_ne z] at e
      exact W.fnew a u e
  · obtain ⟨g1, g2⟩ := W.mem q (List.mem_cons_of_mem _ hq)
    refine ⟨?_, g2.mono sf fun u e => e⟩
    rw [upd_ne]
    · exact g1
    · intro z
      exact nd.1 (List.mem_map.mpr ⟨q, hq, z⟩)
end
end G

namespace G
open PySem PySem.Spec PyProof.Rows L2

/-! ### what is wanted, told of the machine's own runs -/
section
variable (X : Cx)
def wE (e : Expr) : TE := fun σ H Q => ∀ pins s, Inv X pins σ H s → wpAny (model X.prog X.w) X.A (eval e X.env) (EP X pins σ Q) X.xe s
def wT (e : Expr) : TT := fun σ H Q => ∀ pins s, Inv X pins σ H s → wpAny (model X.prog X.w) X.A (isTrue e X.env (eval e X.env)) (TP X pins σ Q) X.xe s
def wW (e : Expr) : TT := fun σ H Q => ∀ whole pins s, Inv X pins σ H s → wpAny (model X.prog X.w) X.A (isTrue e X.env whole) (TP X pins σ Q) X.xe s
def wA (es : List Expr) : TA := fun σ H Q => ∀ pos pins s, Inv X pins σ H s → wpAny (model X.prog X.w) X.A (spliced (backTo pos (starEach es X.env))) (AP X pins σ Q) X.xe s
def wK (kws : List Keyword) : TA := fun σ H Q => ∀ pos pins s, Inv X pins σ H s → wpAny (model X.prog X.w) X.A (evalAll ((backToKw pos (keywordEach kws X.env)).map (·.2))) (AP X pins σ Q) X.xe s
def wS (st : Stmt) : TS := fun D σ H => ∀ pins s, Inv X pins σ H s → wpAny (model X.prog X.w) X.A (exec st X.env) (SP X pins D) X.xe s
def wB (sts : List Stmt) : TS := fun D σ H => ∀ pins s, Inv X pins σ H s → wpAny (model X.prog X.w) X.A (execs sts X.env) (SP X pins D) X.xe s
def wG (tg : Expr) : TG := fun v σ H Q => ∀ pins s u, Inv X pins σ H s → RelV v u → wpAny (model X.prog X.w) X.A (assign tg X.env u) (fun _ s' => ∃ σ' H', Inv X pins σ' H' s' ∧ Q σ' H') X.xe s
def wGs (ts : List Expr) : TGs := fun vs σ H Q => ∀ pins s us, Inv X pins σ H s → Vals vs us → wpAny (model X.prog X.w) X.A (assignInOrder ((assignEach ts X.env).map (·.2)) us) (fun _ s' => ∃ σ' H', Inv X pins σ' H' s' ∧ Q σ' H') X.xe s
def wI (tg iter : Expr) : TI := fun σ H R => ∀ pins s, Inv X pins σ H s → wpAny (model X.prog X.w) X.A (eval iter X.env) (fun v s1 => wpAny (model X.prog X.w) X.A (pyIter v) (PIE X pins σ tg R) X.xe s1) X.xe s
def wO (o : Option Expr) : TO := fun σ H Q => ∀ t, PO X o t → t σ H Q → True
end
section
variable {X : Cx} {e : Expr} {es sts : List Expr} {st : Stmt} {bs : List Stmt} {σ : L2.St} {H : Hp}
theorem pE : PE X e (wE X e) := ⟨fun pins s _ _ _ I h => h pins s I⟩
theorem pT : PT X e (wT X e) := ⟨fun pins s _ _ _ I h => h pins s I⟩
theorem pW : PW X e (wW X e) := ⟨fun wh pins s _ _ _ I h => h wh pins s I⟩
theorem pA : PA X es (wA X es) := ⟨fun pos pins s _ _ _ I h => h pos pins s I⟩
theorem pK {kws : List Keyword} : PK X kws (wK X kws) := ⟨fun pos pins s _ _ _ I h => h pos pins s I⟩
theorem pS : PS X st (wS X st) := ⟨fun pins s _ _ _ I h => h pins s I⟩
theorem pB : PSs X bs (wB X bs) := ⟨fun pins s _ _ _ I h => h pins s I⟩
theorem pG {tg : Expr} : PG X tg (wG X tg) := ⟨fun pins s _ _ _ u _ I r h => h pins s u I r⟩
theorem pGs {ts : List Expr} : PGs X ts (wGs X ts) := ⟨fun pins s _ _ _ us _ I r h => h pins s us I r⟩
theorem pI {tg it : Expr} : PI X tg it (wI X tg it) := ⟨fun pins s _ _ _ I h => h pins s I⟩
theorem wE_of {t : TE} {Q : VK} (h : PE X e t) (q : t σ H Q) : wE X e σ H Q := fun pins s I => h.run pins s σ H Q I q
theorem wT_of {t : TT} {Q : Bool → Hp → Prop} (h : PT X e t) (q : t σ H Q) : wT X e σ H Q := fun pins s I => h.run pins s σ H Q I q
theorem wW_of {t : TT} {Q : Bool → Hp → Prop} (h : PW X e t) (q : t σ H Q) : wW X e σ H Q := fun wh pins s I => h.run wh pins s σ H Q I q
theorem wA_of {t : TA} {Q : List V → Hp → Prop} (h : PA X es t) (q : t σ H Q) : wA X es σ H Q := fun pos pins s I => h.run pos pins s σ H Q I q
theorem wK_of {t : TA} {kws : List Keyword} {Q : List V → Hp → Prop} (h : PK X kws t) (q : t σ H Q) : wK X kws σ H Q := fun pos pins s I => h.run pos pins s σ H Q I q
theorem wS_of {t : TS} {D : Ends} (h : PS X st t) (q : t D σ H) : wS X st D σ H := fun pins s I => h.run pins s σ H D I q
theorem wB_of {t : TS} {D : Ends} (h : PSs X bs t) (q : t D σ H) : wB X bs D σ H := fun pins s I => h.run pins s σ H D I q
theorem wG_of {t : TG} {tg : Expr} {v : V} {Q : L2.St → Hp → Prop} (h : PG X tg t) (q : t v σ H Q) : wG X tg v σ H Q := fun pins s u I r => h.run pins s σ H v u Q I r q
theorem wGs_of {t : TGs} {ts : List Expr} {vs : List V} {Q : L2.St → Hp → Prop} (h : PGs X ts t) (q : t vs σ H Q) : wGs X ts vs σ H Q := fun pins s us I r => h.run pins s σ H vs us Q I r q
theorem wI_of {t : TI} {tg it : Expr} {R : It → Hp → Prop} (h : PI X tg it t) (q : t σ H R) : wI X tg it σ H R := fun pins s I => h.run pins s σ H R I q
end

/-! ### what is wanted, told of data -/
abbrev Kn := SD → Mem → Prop
def Sat (B : Bs) (F : Hp) (Q : Kn) (Q' : VK) : Prop := ∀ r M v F' H', Q r M → Wd B F' H' M → Same F F' → VOk F' v r → Q' v H'
def SatT (B : Bs) (F : Hp) (Q : Bool → Mem → Prop) (Q' : Bool → Hp → Prop) : Prop := ∀ b M F' H', Q b M → Wd B F' H' M → Same F F' → Q' b H'
def SatA (B : Bs) (F : Hp) (Q : List SD → Mem → Prop) (Q' : List V → Hp → Prop) : Prop := ∀ rs M vs F' H', Q rs M → Wd B F' H' M → Same F F' → Paired (VOk F') vs rs → Q' vs H'
def SatN (B : Bs) (F : Hp) (Q : List SD → Mem → Prop) (Q' : L2.St → Hp → Prop) : Prop := ∀ ρ M σ F' H', Q ρ M → Wd B F' H' M → Same F F' → Paired (SOk F') σ ρ → Q' σ H'
structure GD where
  nx : List SD → Mem → Prop
  rt : Kn
  bk : List SD → Mem → Prop := fun _ _ => False
  ct : List SD → Mem → Prop := fun _ _ => False
structure SatS (B : Bs) (F : Hp) (D : GD) (D' : Ends) : Prop where
  nx : SatN B F D.nx D'.nx
  rt : Sat B F D.rt D'.rt
  bk : SatN B F D.bk D'.bk
  ct : SatN B F D.ct D'.ct
/-- the items that an iterator gives -/
structure GIt (F : Hp) (J : It) (n : Nat) (it : Nat → SD) : Prop where
  go : ∀ i F' H, Same F F' → Same F' H → i < n → J.go i H
  stop : ∀ F' H, Same F F' → Same F' H → J.stop n H
  yld : ∀ i B F' H M x H', i < n → Same F F' → Wd B F' H M → J.yld i H x H' → ∃ F2, Same F' F2 ∧ Wd B F2 H' M ∧ VOk F2 x (it i)
def SatI (B : Bs) (F : Hp) (R : Nat → (Nat → SD) → Mem → Prop) (R' : It → Hp → Prop) : Prop := ∀ n it M J F' H', R n it M → Wd B F' H' M → Same F F' → GIt F' J n it → R' J H'
section
variable (X : Cx) (ρ : List SD) (M : Mem)
structure GE (e : Expr) (Q : Kn) : Prop where
  run : ∀ B F H σ Q', Wd B F H M → Paired (SOk F) σ ρ → Sat B F Q Q' → wE X e σ H Q'
structure GT (e : Expr) (Q : Bool → Mem → Prop) : Prop where
  run : ∀ B F H σ Q', Wd B F H M → Paired (SOk F) σ ρ → SatT B F Q Q' → wT X e σ H Q'
structure GW (e : Expr) (Q : Bool → Mem → Prop) : Prop where
  run : ∀ B F H σ Q', Wd B F H M → Paired (SOk F) σ ρ → SatT B F Q Q' → wW X e σ H Q'
structure GA (es : List Expr) (Q : List SD → Mem → Prop) : Prop where
  run : ∀ B F H σ Q', Wd B F H M → Paired (SOk F) σ ρ → SatA B F Q Q' → wA X es σ H Q'
structure GK (kws : List Keyword) (Q : List SD → Mem → Prop) : Prop where
  run : ∀ B F H σ Q', Wd B F H M → Paired (SOk F) σ ρ → SatA B F Q Q' → wK X kws σ H Q'
structure GS (st : Stmt) (D : GD) : Prop where
  run : ∀ B F H σ D', Wd B F H M → Paired (SOk F) σ ρ → SatS B F D D' → wS X st D' σ H
structure GB (sts : List Stmt) (D : GD) : Prop where
  run : ∀ B F H σ D', Wd B F H M → Paired (SOk F) σ ρ → SatS B F D D' → wB X sts D' σ H
structure GG (tg : Expr) (r : SD) (Q : List SD → Mem → Prop) : Prop where
  run : ∀ B F H σ v Q', Wd B F H M → Paired (SOk F) σ ρ → VOk F v r → SatN B F Q Q' → wG X tg v σ H Q'
structure GGs (ts : List Expr) (rs : List SD) (Q : List SD → Mem → Prop) : Prop where
  run : ∀ B F H σ vs Q', Wd B F H M → Paired (SOk F) σ ρ → Paired (VOk F) vs rs → SatN B F Q Q' → wGs X ts vs σ H Q'
structure GI (tg iter : Expr) (R : Nat → (Nat → SD) → Mem → Prop) : Prop where
  run : ∀ B F H σ R', Wd B F H M → Paired (SOk F) σ ρ → SatI B F R R' → wI X tg iter σ H R'
end
section
variable {X : Cx} {ρ : List SD} {M : Mem}
instance {e : Expr} {Q : Kn} : CoeFun (GE X ρ M e Q) (fun _ => ∀ B F H σ Q', Wd B F H M → Paired (SOk F) σ ρ → Sat B F Q Q' → wE X e σ H Q') := ⟨GE.run⟩
instance {e : Expr} {Q : Bool → Mem → Prop} : CoeFun (GT X ρ M e Q) (fun _ => ∀ B F H σ Q', Wd B F H M → Paired (SOk F) σ ρ → SatT B F Q Q' → wT X e σ H Q') := ⟨GT.run⟩
instance {e : Expr} {Q : Bool → Mem → Prop} : CoeFun (GW X ρ M e Q) (fun _ => ∀ B F H σ Q', Wd B F H M → Paired (SOk F) σ ρ → SatT B F Q Q' → wW X e σ H Q') := ⟨GW.run⟩
instance {es : List Expr} {Q : List SD → Mem → Prop} : CoeFun (GA X ρ M es Q) (fun _ => ∀ B F H σ Q', Wd B F H M → Paired (SOk F) σ ρ → SatA B F Q Q' → wA X es σ H Q') := ⟨GA.run⟩
instance {es : List Keyword} {Q : List SD → Mem → Prop} : CoeFun (GK X ρ M es Q) (fun _ => ∀ B F H σ Q', Wd B F H M → Paired (SOk F) σ ρ → SatA B F Q Q' → wK X es σ H Q') := ⟨GK.run⟩
instance {st : Stmt} {D : GD} : CoeFun (GS X ρ M st D) (fun _ => ∀ B F H σ D', Wd B F H M → Paired (SOk F) σ ρ → SatS B F D D' → wS X st D' σ H) := ⟨GS.run⟩
instance {sts : List Stmt} {D : GD} : CoeFun (GB X ρ M sts D) (fun _ => ∀ B F H σ D', Wd B F H M → Paired (SOk F) σ ρ → SatS B F D D' → wB X sts D' σ H) := ⟨GB.run⟩
instance {tg : Expr} {r : SD} {Q : List SD → Mem → Prop} : CoeFun (GG X ρ M tg r Q) (fun _ => ∀ B F H σ v Q', Wd B F H M → Paired (SOk F) σ ρ → VOk F v r → SatN B F Q Q' → wG X tg v σ H Q') := ⟨GG.run⟩
instance {ts : List Expr} {rs : List SD} {Q : List SD → Mem → Prop} : CoeFun (GGs X ρ M ts rs Q) (fun _ => ∀ B F H σ vs Q', Wd B F H M → Paired (SOk F) σ ρ → Paired (VOk F) vs rs → SatN B F Q Q' → wGs X ts vs σ H Q') := ⟨GGs.run⟩
instance {tg it : Expr} {R : Nat → (Nat → SD) → Mem → Prop} : CoeFun (GI X ρ M tg it R) (fun _ => ∀ B F H σ R', Wd B F H M → Paired (SOk F) σ ρ → SatI B F R R' → wI X tg it σ H R') := ⟨GI.run⟩
end
section
variable {B : Bs} {F F' : Hp}
theorem Sat.mono {Q : Kn} {Q' : VK} (h : Sat B F Q Q') (e : Same F F') : Sat B F' Q Q' := fun r M v F2 H2 q W s vv => h r M v F2 H2 q W (e.trans s) vv
theorem SatT.mono {Q : Bool → Mem → Prop} {Q' : Bool → Hp → Prop} (h : SatT B F Q Q') (e : Same F F') : SatT B F' Q Q' := fun r M F2 H2 q W s => h r M F2 H2 q W (e.trans s)
theorem SatA.mono {Q : List SD → Mem → Prop} {Q' : List V → Hp → Prop} (h : SatA B F Q Q') (e : Same F F') : SatA B F' Q Q' := fun r M v F2 H2 q W s vv => h r M v F2 H2 q W (e.trans s) vv
theorem SatN.mono {Q : List SD → Mem → Prop} {Q' : L2.St → Hp → Prop} (h : SatN B F Q Q') (e : Same F F') : SatN B F' Q Q' := fun r M v F2 H2 q W s vv => h r M v F2 H2 q W (e.trans s) vv
theorem SatI.mono {Q : Nat → (Nat → SD) → Mem → Prop} {Q' : It → Hp → Prop} (h : SatI B F Q Q') (e : Same F F') : SatI B F' Q Q' := fun r it M J F2 H2 q W s vv => h r it M J F2 H2 q W (e.trans s) vv
theorem SatS.mono {D : GD} {D' : Ends} (h : SatS B F D D') (e : Same F F') : SatS B F' D D' := ⟨h.nx.mono e, h.rt.mono e, h.bk.mono e, h.ct.mono e⟩
end

/-! ### names, constants -/
section
variable {X : Cx} {ρ : List SD} {M : Mem} {Q : Kn} {QT : Bool → Mem → Prop} {QA : List SD → Mem → Prop} {pos : Pos}
theorem pget {F : Hp} {r : SD} : ∀ {σ : L2.St} {ρ : List SD} {i : Nat}, Paired (SOk F) σ ρ → ρ[i]? = some r → ∃ o, σ[i]? = some o ∧ SOk F o r
  | _, _, i, .nil, h => by simp at h
  | _, _, 0, .cons a b, h => by
    have e : _ = r := Option.some.inj h
    subst e
    exact ⟨_, rfl, a⟩
  | _, _, i + 1, .cons a b, h => by
    obtain ⟨o, e1, e2⟩ := pget (i := i) b (by simpa using h)
    exact ⟨o, by simpa using e1, e2⟩
theorem pset {F : Hp} {r : SD} {o : Option V} (h : SOk F o r) : ∀ {σ : L2.St} {ρ : List SD} (i : Nat), Paired (SOk F) σ ρ → Paired (SOk F) (σ.set i o) (ρ.set i r)
  | _, _, _, .nil => .nil
  | _, _, 0, .cons a b => .cons h b
  | _, _, i + 1, .cons a b => .cons a (pset h i b)
def SD.isV : SD → Bool
  | .un => false
  | _ => true
theorem SOk.isV {F : Hp} {o : Option V} {r : SD} (h : SOk F o r) (hr : r.isV = true) : ∃ v, o = some v ∧ VOk F v r := by
  cases o with
  | some v => exact ⟨v, rfl, h⟩
  | none =>
    cases r with
    | un => cases hr
    | pu d => cases h
    | rf v => cases h
    | pv v d => cases h
    | tp vs => cases h
    | ob C ds => cases h
/-- a name of the def, in place i -/
theorem gv (i : Nat) {x : Str} {r : SD} (hr : ρ[i]? = some r) (q : Q r M) (hv : r.isV = true := by rfl) (hN : X.N[i]? = some x := by rfl) (hvis : Vis X.env.scope x := by first | exact Or.inl rfl | exact Or.inr (Or.inl rfl) | exact Or.inr (Or.inr rfl))
    (hd : (x == ("__debug__" : Str)) = false := by decide) (hcd : (x == ("__classdict__" : Str)) = false := by decide) : GE X ρ M (.Name x pos) Q := .mk fun B F H σ Q' W S s => by
  obtain ⟨o, e1, e2⟩ := pget S hr
  obtain ⟨v, e3, e4⟩ := e2.isV hv
  subst e3
  exact wE_of (pe_var hN hvis hd hcd) ⟨v, e1, s r M v F H q W (Same.refl F) e4⟩
theorem gi {i : Int} {j : Nat} (q : Q (.pu (.int i)) M) : GE X ρ M (.Constant (.int i) j pos) Q := .mk fun B F H σ Q' W S s => wE_of pe_int (s _ M _ F H q W (Same.refl F) (.int i))
theorem gbl {b : Bool} {j : Nat} (q : Q (.pu (.bool b)) M) : GE X ρ M (.Constant (.bool b) j pos) Q := .mk fun B F H σ Q' W S s => wE_of pe_bl (s _ M _ F H q W (Same.refl F) (.bl b))
theorem gnon {j : Nat} (q : Q (.pu .none) M) : GE X ρ M (.Constant .none j pos) Q := .mk fun B F H σ Q' W S s => wE_of pe_non (s _ M _ F H q W (Same.refl F) .non)
theorem gstr {x : Str} {j : Nat} (q : Q (.pu (.str x)) M) : GE X ρ M (.Constant (.str x) j pos) Q := .mk fun B F H σ Q' W S s => wE_of pe_str (s _ M _ F H q W (Same.refl F) (.str x))
/-- a module's constant int -/
theorem gglob {x : Str} {i : Int} {t : Tok} (hm : X.mg x = some (.int i t)) (q : Q (.pu (.int i)) M) (hg : Gl X x := by rfl) (hd : (x == ("__debug__" : Str)) = false := by decide) : GE X ρ M (.Name x pos) Q :=
  .mk fun B F H σ Q' W S s => wE_of (pe_glob (v := V.int i) hg hm ⟨t, rfl⟩ hd) (s _ M _ F H q W (Same.refl F) (.int i))
/-- a function (a class) of the module as a value -/
theorem gfn {x : Str} {f : Addr} (hm : X.mg x = some (.ref f)) (q : Q (.rf (.ref f)) M) (hg : Gl X x := by rfl) (hd : (x == ("__debug__" : Str)) = false := by decide) : GE X ρ M (.Name x pos) Q :=
  .mk fun B F H σ Q' W S s => wE_of (pe_glob (v := V.ref f) hg hm rfl hd) (s _ M _ F H q W (Same.refl F) rfl)
/-- a built-in class as a value -/
theorem gty {x : Str} {n : String} (hm : X.mg x = none) (hv : bootBuiltins x = some (.type n)) (q : Q (.rf (.ty n)) M) (hg : Gl X x := by rfl) (hn : x ≠ "__name__" := by decide) (hd : (x == ("__debug__" : Str)) = false := by decide) : GE X ρ M (.Name x pos) Q :=
  .mk fun B F H σ Q' W S s => wE_of (pe_bltn (v := V.ty n) hg hm hv rfl hn hd) (s _ M _ F H q W (Same.refl F) rfl)

/-! ### a wider wish; freezing -/
theorem GE.mono {e : Expr} {Q1 : Kn} (h : GE X ρ M e Q1) (hq : ∀ r M', Q1 r M' → Q r M') : GE X ρ M e Q := .mk fun B F H σ Q' W S s => h B F H σ Q' W S fun r M' v F' H' q W' s' vv => s r M' v F' H' (hq _ _ q) W' s' vv
theorem GT.mono {e : Expr} {Q1 : Bool → Mem → Prop} (h : GT X ρ M e Q1) (hq : ∀ r M', Q1 r M' → QT r M') : GT X ρ M e QT := .mk fun B F H σ Q' W S s => h B F H σ Q' W S fun r M' F' H' q W' s' => s r M' F' H' (hq _ _ q) W' s'
/-- the value is a new list: it is frozen -/
theorem gz {e : Expr} (h : GE X ρ M e fun r M' => ∃ l ds M2, r = .rf (.ref l) ∧ M' = (l, .lst (ds.map .pu)) :: M2 ∧ Q (.pu (.list ds)) M2) : GE X ρ M e Q := .mk fun B F H σ Q' W S s => h B F H σ Q' W S fun r M' v F' H' q W' s' vv => by
  obtain ⟨l, ds, M2, rfl, rfl, q⟩ := q
  obtain rfl : v = .ref l := vv
  obtain ⟨F2, s2, W2, d2⟩ := W'.freeze
  exact s _ M2 _ F2 H' q W2 (s'.trans s2) d2
/-- of the changing lists some are forgotten -/
theorem gforget {e : Expr} {M2 : Mem} (hs : List.Sublist M2 M) (h : GE X ρ M2 e Q) : GE X ρ M e Q := .mk fun B F H σ Q' W S s => h B F H σ Q' (W.sub hs) S s
theorem gbforget {e : List Stmt} {M2 : Mem} {D : GD} (hs : List.Sublist M2 M) (h : GB X ρ M2 e D) : GB X ρ M e D := .mk fun B F H σ Q' W S s => h B F H σ Q' (W.sub hs) S s
theorem gbperm {e : List Stmt} {M2 : Mem} {D : GD} (hs : M.Perm M2) (h : GB X ρ M2 e D) : GB X ρ M e D := .mk fun B F H σ Q' W S s => h B F H σ Q' (W.perm hs) S s
theorem geperm {e : Expr} {M2 : Mem} (hs : M.Perm M2) (h : GE X ρ M2 e Q) : GE X ρ M e Q := .mk fun B F H σ Q' W S s => h B F H σ Q' (W.perm hs) S s
/-- what is known of a place is forgotten -/
theorem SOk.un {F : Hp} {o : Option V} : SOk F o .un := by cases o <;> trivial

/-! ### operators -/
/-- two results through a rule -/
def RR (X : Cx) (r : R2) (x y : SD) (M : Mem) (Q : Kn) : Prop := ∀ B F H v w Q', Wd B F H M → VOk F v x → VOk F w y → Sat B F Q Q' → r v w H Q'
def RU (X : Cx) (r : V → Hp → VK → Prop) (x : SD) (M : Mem) (Q : Kn) : Prop := ∀ B F H v Q', Wd B F H M → VOk F v x → Sat B F Q Q' → r v H Q'
def RC (X : Cx) (r : List V → Hp → VK → Prop) (xs : List SD) (M : Mem) (Q : Kn) : Prop := ∀ B F H vs Q', Wd B F H M → Paired (VOk F) vs xs → Sat B F Q Q' → r vs H Q'
variable {a b c : Expr}
theorem ge2 {r : R2} {op : Operator} (ho : OpR X (binaryOp op) r) (h : GE X ρ M a fun x M1 => GE X ρ M1 b fun y M2 => RR X r x y M2 Q) : GE X ρ M (.BinOp a op b pos) Q := .mk fun B F H σ Q' W S s => by
  refine wE_of (pe_op ho pE pE) (h B F H σ _ W S fun x M1 v F1 H1 hx W1 s1 vx => ?_)
  refine hx B F1 H1 σ _ W1 (pMono s1 S) fun y M2 w F2 H2 hy W2 s2 wy => ?_
  exact hy B F2 H2 v w Q' W2 (vx.mono s2) wy (s.mono (s1.trans s2))
theorem ge1 {r : V → Hp → VK → Prop} {op : UnaryOp} (ho : UnR X (unaryOp op) r) (h : GE X ρ M a fun x M1 => RU X r x M1 Q) : GE X ρ M (.UnaryOp op a pos) Q := .mk fun B F H σ Q' W S s => by
  refine wE_of (pe_un ho pE) (h B F H σ _ W S fun x M1 v F1 H1 hx W1 s1 vx => ?_)
  exact hx B F1 H1 v Q' W1 vx (s.mono s1)
theorem geC {r : R2} {op : CmpOp} (ho : OpR X (compareOp op) r) (hm : behindInMarks op b = false) (h : GE X ρ M a fun x M1 => GE X ρ M1 b fun y M2 => RR X r x y M2 Q) : GE X ρ M (.Compare a [op] [b] pos) Q := .mk fun B F H σ Q' W S s => by
  refine wE_of (pe_cmpR ho pE pE hm) (h B F H σ _ W S fun x M1 v F1 H1 hx W1 s1 vx => ?_)
  refine hx B F1 H1 σ _ W1 (pMono s1 S) fun y M2 w F2 H2 hy W2 s2 wy => ?_
  exact hy B F2 H2 v w Q' W2 (vx.mono s2) wy (s.mono (s1.trans s2))
/-- the wish of a test, as a wish of a truth value -/
def bo (Q : Bool → Mem → Prop) : Kn := fun r M => ∃ k, r = .pu (.bool k) ∧ Q k M
theorem satB {B : Bs} {F : Hp} {Q' : Bool → Hp → Prop} (s : SatT B F QT Q') : Sat B F (bo QT) fun v H' => ∃ k, v = .bl k ∧ Q' k H' := fun r M v F' H' q W s' vv => by
  obtain ⟨k, rfl, q⟩ := q
  have vv : Dt F' v (.bool k) := vv
  cases vv
  exact ⟨k, rfl, s k M F' H' q W s'⟩
theorem gtC {r : R2} {op : CmpOp} (ho : OpR X (compareOp op) r) (hm : behindInMarks op b = false) (h : GE X ρ M a fun x M1 => GE X ρ M1 b fun y M2 => RR X r x y M2 (bo QT)) : GT X ρ M (.Compare a [op] [b] pos) QT := .mk fun B F H σ Q' W S s => by
  refine wT_of (pt_cmpR ho pE pE hm) (h B F H σ _ W S fun x M1 v F1 H1 hx W1 s1 vx => ?_)
  refine hx B F1 H1 σ _ W1 (pMono s1 S) fun y M2 w F2 H2 hy W2 s2 wy => ?_
  exact hy B F2 H2 v w _ W2 (vx.mono s2) wy (satB (s.mono (s1.trans s2)))
/-- a < b < c -/
theorem geCC {r r' : R2} {op op' : CmpOp} (ho : OpR X (compareOp op) r) (ho' : OpR X (compareOp op') r') (hm : lastMarks [op, op'] [b, c] = false)
    (h : GE X ρ M a fun x M1 => GE X ρ M1 b fun y M2 => RR X r x y M2 fun z M3 => ∃ k, z = .pu (.bool k) ∧ if k = true then GE X ρ M3 c fun w M4 => RR X r' y w M4 Q else Q (.pu (.bool false)) M3) : GE X ρ M (.Compare a [op, op'] [b, c] pos) Q := .mk fun B F H σ Q' W S s => by
  refine wE_of (pe_chain ho ho' pE pE pE hm) (h B F H σ _ W S fun x M1 v F1 H1 hx W1 s1 vx => ?_)
  refine hx B F1 H1 σ _ W1 (pMono s1 S) fun y M2 w F2 H2 hy W2 s2 wy => ?_
  refine hy B F2 H2 v w _ W2 (vx.mono s2) wy fun z M3 z' F3 H3 hz W3 s3 vz => ?_
  obtain ⟨k, rfl, hz⟩ := hz
  have vz : Dt F3 z' (.bool k) := vz
  cases vz
  refine ⟨k, rfl, ?_⟩
  cases k with
  | true =>
    refine iteT ?_
    refine (show GE X ρ M3 c _ from hz) B F3 H3 σ _ W3 (pMono ((s1.trans s2).trans s3) S) fun u M4 u' F4 H4 hu W4 s4 vu => ?_
    exact hu B F4 H4 w u' Q' W4 ((wy.mono s3).mono s4) vu (s.mono (((s1.trans s2).trans s3).trans s4))
  | false =>
    refine iteF ?_
    exact s _ M3 _ F3 H3 hz W3 ((s1.trans s2).trans s3) (.bl false)
theorem gtCC {r r' : R2} {op op' : CmpOp} (ho : OpR X (compareOp op) r) (ho' : OpR X (compareOp op') r') (hm : lastMarks [op, op'] [b, c] = false)
    (h : GE X ρ M a fun x M1 => GE X ρ M1 b fun y M2 => RR X r x y M2 fun z M3 => ∃ k, z = .pu (.bool k) ∧ if k = true then GE X ρ M3 c fun w M4 => RR X r' y w M4 (bo QT) else QT false M3) : GT X ρ M (.Compare a [op, op'] [b, c] pos) QT := .mk fun B F H σ Q' W S s => by
  refine wT_of (pt_chain ho ho' pE pE pE hm) (h B F H σ _ W S fun x M1 v F1 H1 hx W1 s1 vx => ?_)
  refine hx B F1 H1 σ _ W1 (pMono s1 S) fun y M2 w F2 H2 hy W2 s2 wy => ?_
  refine hy B F2 H2 v w _ W2 (vx.mono s2) wy fun z M3 z' F3 H3 hz W3 s3 vz => ?_
  obtain ⟨k, rfl, hz⟩ := hz
  have vz : Dt F3 z' (.bool k) := vz
  cases vz
  refine ⟨k, rfl, ?_⟩
  cases k with
  | true =>
    refine iteT ?_
    refine (show GE X ρ M3 c _ from hz) B F3 H3 σ _ W3 (pMono ((s1.trans s2).trans s3) S) fun u M4 u' F4 H4 hu W4 s4 vu => ?_
    exact hu B F4 H4 w u' _ W4 ((wy.mono s3).mono s4) vu (satB (s.mono (((s1.trans s2).trans s3).trans s4)))
  | false =>
    refine iteF ?_
    exact ⟨_, rfl, s _ M3 F3 H3 hz W3 ((s1.trans s2).trans s3)⟩
end
end G

namespace G
open PySem PySem.Spec PyProof.Rows L2
section
variable {X : Cx} {ρ : List SD} {M : Mem} {Q : Kn} {QT : Bool → Mem → Prop} {QA : List SD → Mem → Prop} {pos : Pos} {a b c e : Expr} {es : List Expr}

/-! ### ints -/
theorem rI_ {C : Int → Int → Prop} {g : Int → Int → Int} {i j : Int} (hc : C i j) (q : Q (.pu (.int (g i j))) M) : RR X (rI C fun i j => .int (g i j)) (.pu (.int i)) (.pu (.int j)) M Q := fun B F H v w Q' W hv hw s => by
  have hv : Dt F v (.int i) := hv
  have hw : Dt F w (.int j) := hw
  cases hv
  cases hw
  exact ⟨i, j, rfl, rfl, hc, s _ M _ F H q W (Same.refl F) (.int _)⟩
theorem rI0_ {g : Int → Int → Int} {i j : Int} (q : Q (.pu (.int (g i j))) M) : RR X (rI0 fun i j => .int (g i j)) (.pu (.int i)) (.pu (.int j)) M Q := fun B F H v w Q' W hv hw s => by
  have hv : Dt F v (.int i) := hv
  have hw : Dt F w (.int j) := hw
  cases hv
  cases hw
  exact ⟨i, j, rfl, rfl, s _ M _ F H q W (Same.refl F) (.int _)⟩
theorem rB0_ {g : Int → Int → Bool} {i j : Int} (q : Q (.pu (.bool (g i j))) M) : RR X (rI0 fun i j => .bl (g i j)) (.pu (.int i)) (.pu (.int j)) M Q := fun B F H v w Q' W hv hw s => by
  have hv : Dt F v (.int i) := hv
  have hw : Dt F w (.int j) := hw
  cases hv
  cases hw
  exact ⟨i, j, rfl, rfl, s _ M _ F H q W (Same.refl F) (.bl _)⟩
/-- two ints come -/
def i2 (k : Int → Int → Mem → Prop) (X : Cx) (ρ : List SD) (b : Expr) : Kn := fun x M1 => ∃ i, x = .pu (.int i) ∧ GE X ρ M1 b fun y M2 => ∃ j, y = .pu (.int j) ∧ k i j M2
theorem gadd (h : GE X ρ M a (i2 (fun i j M2 => Q (.pu (.int (i + j))) M2) X ρ b)) : GE X ρ M (.BinOp a .Add b pos) Q := ge2 op_add (h.mono fun x M1 ⟨i, e, h⟩ => e ▸ h.mono fun y M2 ⟨j, e, h⟩ => e ▸ rI0_ h)
theorem gsub (h : GE X ρ M a (i2 (fun i j M2 => Q (.pu (.int (i - j))) M2) X ρ b)) : GE X ρ M (.BinOp a .Sub b pos) Q := ge2 op_sub (h.mono fun x M1 ⟨i, e, h⟩ => e ▸ h.mono fun y M2 ⟨j, e, h⟩ => e ▸ rI0_ h)
theorem gmul (h : GE X ρ M a (i2 (fun i j M2 => CMul i j ∧ Q (.pu (.int (i * j))) M2) X ρ b)) : GE X ρ M (.BinOp a .Mult b pos) Q := ge2 op_mul (h.mono fun x M1 ⟨i, e, h⟩ => e ▸ h.mono fun y M2 ⟨j, e, h⟩ => e ▸ rI_ h.1 h.2)
theorem gdiv (h : GE X ρ M a (i2 (fun i j M2 => CDiv i j ∧ Q (.pu (.int (i / j))) M2) X ρ b)) : GE X ρ M (.BinOp a .FloorDiv b pos) Q := ge2 op_fdiv (h.mono fun x M1 ⟨i, e, h⟩ => e ▸ h.mono fun y M2 ⟨j, e, h⟩ => e ▸ rI_ h.1 h.2)
theorem gmod (h : GE X ρ M a (i2 (fun i j M2 => 0 < j ∧ Q (.pu (.int (i % j))) M2) X ρ b)) : GE X ρ M (.BinOp a .Mod b pos) Q := ge2 op_mod (h.mono fun x M1 ⟨i, e, h⟩ => e ▸ h.mono fun y M2 ⟨j, e, h⟩ => e ▸ rI_ h.1 h.2)
theorem gpow (h : GE X ρ M a (i2 (fun i j M2 => CPow i j ∧ Q (.pu (.int (i ^ j.toNat))) M2) X ρ b)) : GE X ρ M (.BinOp a .Pow b pos) Q := ge2 op_pow (h.mono fun x M1 ⟨i, e, h⟩ => e ▸ h.mono fun y M2 ⟨j, e, h⟩ => e ▸ rI_ h.1 h.2)
theorem gneg (h : GE X ρ M a fun x M1 => ∃ i, x = .pu (.int i) ∧ Q (.pu (.int (-i))) M1) : GE X ρ M (.UnaryOp .USub a pos) Q := ge1 un_neg (h.mono fun x M1 ⟨i, e, h⟩ => e ▸ fun B F H v Q' W hv s => by
  have hv : Dt F v (.int i) := hv
  cases hv
  exact ⟨i, rfl, s _ M1 _ F H h W (Same.refl F) (.int _)⟩)
/-- comparisons of ints: as a value, as a test -/
theorem glt (h : GE X ρ M a (i2 (fun i j M2 => Q (.pu (.bool (decide (i < j)))) M2) X ρ b)) : GE X ρ M (.Compare a [.Lt] [b] pos) Q := geC op_lt (nomark _) (h.mono fun x M1 ⟨i, e, h⟩ => e ▸ h.mono fun y M2 ⟨j, e, h⟩ => e ▸ rB0_ h)
theorem gle (h : GE X ρ M a (i2 (fun i j M2 => Q (.pu (.bool (decide (i ≤ j)))) M2) X ρ b)) : GE X ρ M (.Compare a [.LtE] [b] pos) Q := geC op_le (nomark _) (h.mono fun x M1 ⟨i, e, h⟩ => e ▸ h.mono fun y M2 ⟨j, e, h⟩ => e ▸ rB0_ h)
theorem ggt (h : GE X ρ M a (i2 (fun i j M2 => Q (.pu (.bool (decide (j < i)))) M2) X ρ b)) : GE X ρ M (.Compare a [.Gt] [b] pos) Q := geC op_gt (nomark _) (h.mono fun x M1 ⟨i, e, h⟩ => e ▸ h.mono fun y M2 ⟨j, e, h⟩ => e ▸ rB0_ h)
theorem gge (h : GE X ρ M a (i2 (fun i j M2 => Q (.pu (.bool (decide (j ≤ i)))) M2) X ρ b)) : GE X ρ M (.Compare a [.GtE] [b] pos) Q := geC op_ge (nomark _) (h.mono fun x M1 ⟨i, e, h⟩ => e ▸ h.mono fun y M2 ⟨j, e, h⟩ => e ▸ rB0_ h)
theorem tlt (h : GE X ρ M a (i2 (fun i j M2 => QT (decide (i < j)) M2) X ρ b)) : GT X ρ M (.Compare a [.Lt] [b] pos) QT := gtC op_lt (nomark _) (h.mono fun x M1 ⟨i, e, h⟩ => e ▸ h.mono fun y M2 ⟨j, e, h⟩ => e ▸ rB0_ ⟨_, rfl, h⟩)
theorem tle (h : GE X ρ M a (i2 (fun i j M2 => QT (decide (i ≤ j)) M2) X ρ b)) : GT X ρ M (.Compare a [.LtE] [b] pos) QT := gtC op_le (nomark _) (h.mono fun x M1 ⟨i, e, h⟩ => e ▸ h.mono fun y M2 ⟨j, e, h⟩ => e ▸ rB0_ ⟨_, rfl, h⟩)
theorem tgt (h : GE X ρ M a (i2 (fun i j M2 => QT (decide (j < i)) M2) X ρ b)) : GT X ρ M (.Compare a [.Gt] [b] pos) QT := gtC op_gt (nomark _) (h.mono fun x M1 ⟨i, e, h⟩ => e ▸ h.mono fun y M2 ⟨j, e, h⟩ => e ▸ rB0_ ⟨_, rfl, h⟩)
theorem tge (h : GE X ρ M a (i2 (fun i j M2 => QT (decide (j ≤ i)) M2) X ρ b)) : GT X ρ M (.Compare a [.GtE] [b] pos) QT := gtC op_ge (nomark _) (h.mono fun x M1 ⟨i, e, h⟩ => e ▸ h.mono fun y M2 ⟨j, e, h⟩ => e ▸ rB0_ ⟨_, rfl, h⟩)
/-- a < b < c, a <= b <= c, a <= b < c: ints -/
theorem rr2 {op : CmpOp} {g : Int → Int → Bool} {i j : Int} {P : Kn} (q : P (.pu (.bool (g i j))) M) : RR X (rI0 fun i j => .bl (g i j)) (.pu (.int i)) (.pu (.int j)) M P := rB0_ q
def i3 (op op' : Int → Int → Bool) (k : Bool → Mem → Prop) (X : Cx) (ρ : List SD) (b c : Expr) : Kn := fun x M1 => ∃ i, x = .pu (.int i) ∧ GE X ρ M1 b fun y M2 => ∃ j, y = .pu (.int j) ∧
  if op i j = true then GE X ρ M2 c fun z M3 => ∃ l, z = .pu (.int l) ∧ k (op' j l) M3 else k false M2
theorem chain_ {op op' : CmpOp} {g g' : Int → Int → Bool} (ho : OpR X (compareOp op) (rI0 fun i j => .bl (g i j))) (ho' : OpR X (compareOp op') (rI0 fun i j => .bl (g' i j))) (hm : lastMarks [op, op'] [b, c] = false)
    (h : GE X ρ M a (i3 g g' QT X ρ b c)) : GT X ρ M (.Compare a [op, op'] [b, c] pos) QT := gtCC ho ho' hm (h.mono fun x M1 ⟨i, e, h⟩ => e ▸ h.mono fun y M2 ⟨j, e, h⟩ => e ▸ rB0_ ⟨_, rfl, by
  cases hg : g i j with
  | true =>
    rw [hg, if_pos rfl] at h
    rw [if_pos rfl]
    exact h.mono fun z M3 ⟨l, e, h⟩ => e ▸ rB0_ ⟨_, rfl, h⟩
  | false =>
    rw [hg, if_neg Bool.false_ne_true] at h
    rw [if_neg Bool.false_ne_true]
    exact h⟩)
theorem chainE_ {op op' : CmpOp} {g g' : Int → Int → Bool} (ho : OpR X (compareOp op) (rI0 fun i j => .bl (g i j))) (ho' : OpR X (compareOp op') (rI0 fun i j => .bl (g' i j))) (hm : lastMarks [op, op'] [b, c] = false)
    (h : GE X ρ M a (i3 g g' (fun k M' => Q (.pu (.bool k)) M') X ρ b c)) : GE X ρ M (.Compare a [op, op'] [b, c] pos) Q := geCC ho ho' hm (h.mono fun x M1 ⟨i, e, h⟩ => e ▸ h.mono fun y M2 ⟨j, e, h⟩ => e ▸ rB0_ ⟨_, rfl, by
  cases hg : g i j with
  | true =>
    rw [hg, if_pos rfl] at h
    rw [if_pos rfl]
    exact h.mono fun z M3 ⟨l, e, h⟩ => e ▸ rB0_ h
  | false =>
    rw [hg, if_neg Bool.false_ne_true] at h
    rw [if_neg Bool.false_ne_true]
    exact h⟩)
theorem tltlt (h : GE X ρ M a (i3 (fun i j => decide (i < j)) (fun i j => decide (i < j)) QT X ρ b c)) (hm : lastMarks [.Lt, .Lt] [b, c] = false := by with_unfolding_all rfl) : GT X ρ M (.Compare a [.Lt, .Lt] [b, c] pos) QT := chain_ op_lt op_lt hm h
theorem tlele (h : GE X ρ M a (i3 (fun i j => decide (i ≤ j)) (fun i j => decide (i ≤ j)) QT X ρ b c)) (hm : lastMarks [.LtE, .LtE] [b, c] = false := by with_unfolding_all rfl) : GT X ρ M (.Compare a [.LtE, .LtE] [b, c] pos) QT := chain_ op_le op_le hm h
theorem tlelt (h : GE X ρ M a (i3 (fun i j => decide (i ≤ j)) (fun i j => decide (i < j)) QT X ρ b c)) (hm : lastMarks [.LtE, .Lt] [b, c] = false := by with_unfolding_all rfl) : GT X ρ M (.Compare a [.LtE, .Lt] [b, c] pos) QT := chain_ op_le op_lt hm h
theorem glele (h : GE X ρ M a (i3 (fun i j => decide (i ≤ j)) (fun i j => decide (i ≤ j)) (fun k M' => Q (.pu (.bool k)) M') X ρ b c)) (hm : lastMarks [.LtE, .LtE] [b, c] = false := by with_unfolding_all rfl) : GE X ρ M (.Compare a [.LtE, .LtE] [b, c] pos) Q := chainE_ op_le op_le hm h
theorem glelt (h : GE X ρ M a (i3 (fun i j => decide (i ≤ j)) (fun i j => decide (i < j)) (fun k M' => Q (.pu (.bool k)) M') X ρ b c)) (hm : lastMarks [.LtE, .Lt] [b, c] = false := by with_unfolding_all rfl) : GE X ρ M (.Compare a [.LtE, .Lt] [b, c] pos) Q := chainE_ op_le op_lt hm h

/-! ### data as a whole: == and !=, in -/
/-- what a result is as data, by the changing lists -/
inductive MD (M : Mem) : SD → PyData → Prop
  | pu (d : PyData) : MD M (.pu d) d
  | mem {l : Addr} {xs : List SD} {ds : List PyData} : (l, MO.lst xs) ∈ M → Paired (MD M) xs ds → MD M (.rf (.ref l)) (.list ds)
theorem MD.dt {B : Bs} {F H : Hp} (W : Wd B F H M) : ∀ {r : SD} {d : PyData} {v : V}, MD M r d → VOk F v r → Dt H v d := by
  intro r d v h
  refine fun hv => (?_ : ∀ v, VOk F v r → Dt H v d) v hv
  refine MD.rec (M := M) (motive_1 := fun r d _ => ∀ v, VOk F v r → Dt H v d) (motive_2 := fun xs ds _ => ∀ vs, Paired (VOk F) vs xs → DtA H vs ds) ?_ ?_ ?_ ?_ h
  · intro d v hv
    exact Dt.mono W.fh hv
  · intro l xs ds hm _ ih v hv
    obtain rfl : v = .ref l := hv
    obtain ⟨f1, vs, f2, f3⟩ := W.mem _ hm
    exact .lst f2 (ih vs f3)
  · intro vs hv
    cases hv
    exact .nil
  · intro x d xs ds _ _ i1 i2 vs hv
    cases hv with
    | cons a b => exact .cons (i1 _ a) (i2 _ b)
theorem geq {d d' : PyData} {x y : SD} (hu : X.A.units + 64 < cLine) (hx : MD M x d) (hy : MD M y d') (h1 : SeqAt.shaped d = true) (h2 : SeqAt.shaped d' = true) (q : Q (.pu (.bool (PyData.eqv d d'))) M) : RR X (rEqD X.K) x y M Q :=
  fun B F H v w Q' W hv hw s => ⟨d, d', (hx.dt W hv).dp, (hy.dt W hw).dp, h1, h2, s _ M _ F H q W (Same.refl F) (.bl _)⟩
theorem gne {d d' : PyData} {x y : SD} (hu : X.A.units + 64 < cLine) (hx : MD M x d) (hy : MD M y d') (h1 : SeqAt.shaped d = true) (h2 : SeqAt.shaped d' = true) (q : Q (.pu (.bool (!PyData.eqv d d'))) M) : RR X (rNeD X.K) x y M Q :=
  fun B F H v w Q' W hv hw s => ⟨d, d', (hx.dt W hv).dp, (hy.dt W hw).dp, h1, h2, s _ M _ F H q W (Same.refl F) (.bl _)⟩
/-- == of ints, texts, truth values -/
def scalD : PyData → V
  | .none => .non
  | .bool b => .bl b
  | .int i => .int i
  | .str x => .str x
  | _ => .non
def isScal : PyData → Bool
  | .bool _ => true
  | .int _ => true
  | .str _ => true
  | _ => false
theorem scal_of {F : Hp} {v : V} {d : PyData} (h : Dt F v d) (hs : isScal d = true) : v = scalD d := by
  cases h <;> first | rfl | cases hs
/-- a == b, of scalars of one kind -/
theorem rEq_ {d d' : PyData} (h1 : isScal d = true) (h2 : isScal d' = true) (hs : scal (scalD d) (scalD d') = true) (q : Q (.pu (.bool (decide (scalD d = scalD d')))) M) : RR X rEq (.pu d) (.pu d') M Q := fun B F H v w Q' W hv hw s => by
  rw [scal_of hv h1, scal_of hw h2]
  exact ⟨hs, s _ M _ F H q W (Same.refl F) (.bl _)⟩
theorem rNe_ {d d' : PyData} (h1 : isScal d = true) (h2 : isScal d' = true) (hs : scal (scalD d) (scalD d') = true) (q : Q (.pu (.bool (!decide (scalD d = scalD d')))) M) : RR X rNe (.pu d) (.pu d') M Q := fun B F H v w Q' W hv hw s => by
  rw [scal_of hv h1, scal_of hw h2]
  exact ⟨hs, s _ M _ F H q W (Same.refl F) (.bl _)⟩
theorem geqI (h : GE X ρ M a (i2 (fun i j M2 => Q (.pu (.bool (decide (i = j)))) M2) X ρ b)) : GE X ρ M (.Compare a [.Eq] [b] pos) Q := geC op_eq (nomark _) (h.mono fun x M1 ⟨i, e, h⟩ => e ▸ h.mono fun y M2 ⟨j, e, h⟩ => e ▸ rEq_ rfl rfl rfl (by
  show Q (.pu (.bool (decide (V.int i = V.int j)))) M2
  rw [dec_int, Bool.beq_eq_decide_eq]
  exact h))
theorem teqI (h : GE X ρ M a (i2 (fun i j M2 => QT (decide (i = j)) M2) X ρ b)) : GT X ρ M (.Compare a [.Eq] [b] pos) QT := gtC op_eq (nomark _) (h.mono fun x M1 ⟨i, e, h⟩ => e ▸ h.mono fun y M2 ⟨j, e, h⟩ => e ▸ rEq_ rfl rfl rfl (by
  show bo QT (.pu (.bool (decide (V.int i = V.int j)))) M2
  rw [dec_int, Bool.beq_eq_decide_eq]
  exact ⟨_, rfl, h⟩))
theorem gneI (h : GE X ρ M a (i2 (fun i j M2 => Q (.pu (.bool (!decide (i = j)))) M2) X ρ b)) : GE X ρ M (.Compare a [.NotEq] [b] pos) Q := geC op_ne (nomark _) (h.mono fun x M1 ⟨i, e, h⟩ => e ▸ h.mono fun y M2 ⟨j, e, h⟩ => e ▸ rNe_ rfl rfl rfl (by
  show Q (.pu (.bool (!decide (V.int i = V.int j)))) M2
  rw [dec_int, Bool.beq_eq_decide_eq]
  exact h))
theorem tneI (h : GE X ρ M a (i2 (fun i j M2 => QT (!decide (i = j)) M2) X ρ b)) : GT X ρ M (.Compare a [.NotEq] [b] pos) QT := gtC op_ne (nomark _) (h.mono fun x M1 ⟨i, e, h⟩ => e ▸ h.mono fun y M2 ⟨j, e, h⟩ => e ▸ rNe_ rfl rfl rfl (by
  show bo QT (.pu (.bool (!decide (V.int i = V.int j)))) M2
  rw [dec_int, Bool.beq_eq_decide_eq]
  exact ⟨_, rfl, h⟩))
/-- texts -/
def s2 (k : Str → Str → Mem → Prop) (X : Cx) (ρ : List SD) (b : Expr) : Kn := fun x M1 => ∃ i, x = .pu (.str i) ∧ GE X ρ M1 b fun y M2 => ∃ j, y = .pu (.str j) ∧ k i j M2
theorem teqS (h : GE X ρ M a (s2 (fun i j M2 => QT (decide (i = j)) M2) X ρ b)) : GT X ρ M (.Compare a [.Eq] [b] pos) QT := gtC op_eq (nomark _) (h.mono fun x M1 ⟨i, e, h⟩ => e ▸ h.mono fun y M2 ⟨j, e, h⟩ => e ▸ rEq_ rfl rfl rfl (by
  show bo QT (.pu (.bool (decide (V.str i = V.str j)))) M2
  have e : decide (V.str i = V.str j) = decide (i = j) := by simp
  rw [e]
  exact ⟨_, rfl, h⟩))
theorem tneS (h : GE X ρ M a (s2 (fun i j M2 => QT (!decide (i = j)) M2) X ρ b)) : GT X ρ M (.Compare a [.NotEq] [b] pos) QT := gtC op_ne (nomark _) (h.mono fun x M1 ⟨i, e, h⟩ => e ▸ h.mono fun y M2 ⟨j, e, h⟩ => e ▸ rNe_ rfl rfl rfl (by
  show bo QT (.pu (.bool (!decide (V.str i = V.str j)))) M2
  have e : decide (V.str i = V.str j) = decide (i = j) := by simp
  rw [e]
  exact ⟨_, rfl, h⟩))
theorem geqS (h : GE X ρ M a (s2 (fun i j M2 => Q (.pu (.bool (decide (i = j)))) M2) X ρ b)) : GE X ρ M (.Compare a [.Eq] [b] pos) Q := geC op_eq (nomark _) (h.mono fun x M1 ⟨i, e, h⟩ => e ▸ h.mono fun y M2 ⟨j, e, h⟩ => e ▸ rEq_ rfl rfl rfl (by
  show Q (.pu (.bool (decide (V.str i = V.str j)))) M2
  have e : decide (V.str i = V.str j) = decide (i = j) := by simp
  rw [e]
  exact h))
/-- data at any depth -/
def dd (k : PyData → PyData → Mem → Prop) (X : Cx) (ρ : List SD) (b : Expr) : Kn := fun x M1 => ∃ d, MD M1 x d ∧ SeqAt.shaped d = true ∧ GE X ρ M1 b fun y M2 => ∃ d', MD M2 x d ∧ MD M2 y d' ∧ SeqAt.shaped d' = true ∧ k d d' M2
theorem geqD (hu : X.A.units + 64 < cLine) (h : GE X ρ M a (dd (fun i j M2 => Q (.pu (.bool (PyData.eqv i j))) M2) X ρ b)) : GE X ρ M (.Compare a [.Eq] [b] pos) Q := geC (op_eqD hu) (nomark _) (h.mono fun x M1 ⟨d, _, e2, h⟩ => h.mono fun y M2 ⟨d', f0, f1, f2, h⟩ => geq hu f0 f1 e2 f2 h)
theorem teqD (hu : X.A.units + 64 < cLine) (h : GE X ρ M a (dd (fun i j M2 => QT (PyData.eqv i j) M2) X ρ b)) : GT X ρ M (.Compare a [.Eq] [b] pos) QT := gtC (op_eqD hu) (nomark _) (h.mono fun x M1 ⟨d, _, e2, h⟩ => h.mono fun y M2 ⟨d', f0, f1, f2, h⟩ => geq hu f0 f1 e2 f2 ⟨_, rfl, h⟩)
theorem gneD (hu : X.A.units + 64 < cLine) (h : GE X ρ M a (dd (fun i j M2 => Q (.pu (.bool (!PyData.eqv i j))) M2) X ρ b)) : GE X ρ M (.Compare a [.NotEq] [b] pos) Q := geC (op_neD hu) (nomark _) (h.mono fun x M1 ⟨d, _, e2, h⟩ => h.mono fun y M2 ⟨d', f0, f1, f2, h⟩ => gne hu f0 f1 e2 f2 h)
theorem tneD (hu : X.A.units + 64 < cLine) (h : GE X ρ M a (dd (fun i j M2 => QT (!PyData.eqv i j) M2) X ρ b)) : GT X ρ M (.Compare a [.NotEq] [b] pos) QT := gtC (op_neD hu) (nomark _) (h.mono fun x M1 ⟨d, _, e2, h⟩ => h.mono fun y M2 ⟨d', f0, f1, f2, h⟩ => gne hu f0 f1 e2 f2 ⟨_, rfl, h⟩)
/-- d in xs: the list is data -/
def dl (k : PyData → List PyData → Mem → Prop) (X : Cx) (ρ : List SD) (b : Expr) : Kn := fun x M1 => ∃ d, x = .pu d ∧ SeqAt.shaped d = true ∧ GE X ρ M1 b fun y M2 => ∃ ds, MD M2 y (.list ds) ∧ SeqAt.shaped (.list ds) = true ∧ k d ds M2
theorem rIn_ {d : PyData} {ds : List PyData} {y : SD} (h1 : SeqAt.shaped d = true) (hy : MD M y (.list ds)) (h2 : SeqAt.shaped (.list ds) = true) (q : Q (.pu (.bool (ds.any fun z => PyData.eqv z d))) M) : RR X (rInD X.K) (.pu d) y M Q :=
  fun B F H v w Q' W hv hw s => ⟨d, ds, (Dt.mono W.fh hv).dp, (hy.dt W hw).dp, h1, h2, s _ M _ F H q W (Same.refl F) (.bl _)⟩
theorem rNi_ {d : PyData} {ds : List PyData} {y : SD} (h1 : SeqAt.shaped d = true) (hy : MD M y (.list ds)) (h2 : SeqAt.shaped (.list ds) = true) (q : Q (.pu (.bool (!ds.any fun z => PyData.eqv z d))) M) : RR X (rNotInD X.K) (.pu d) y M Q :=
  fun B F H v w Q' W hv hw s => ⟨d, ds, (Dt.mono W.fh hv).dp, (hy.dt W hw).dp, h1, h2, s _ M _ F H q W (Same.refl F) (.bl _)⟩
theorem gin (hu : X.A.units + 65 < cLine) (h : GE X ρ M a (dl (fun i j M2 => Q (.pu (.bool (j.any fun z => PyData.eqv z i))) M2) X ρ b)) (hm : behindInMarks .In b = false := by with_unfolding_all rfl) : GE X ρ M (.Compare a [.In] [b] pos) Q := geC (op_inD hu) hm (h.mono fun x M1 ⟨d, e, e2, h⟩ => e ▸ h.mono fun y M2 ⟨d', f1, f2, h⟩ => rIn_ e2 f1 f2 h)
theorem tin (hu : X.A.units + 65 < cLine) (h : GE X ρ M a (dl (fun i j M2 => QT (j.any fun z => PyData.eqv z i) M2) X ρ b)) (hm : behindInMarks .In b = false := by with_unfolding_all rfl) : GT X ρ M (.Compare a [.In] [b] pos) QT := gtC (op_inD hu) hm (h.mono fun x M1 ⟨d, e, e2, h⟩ => e ▸ h.mono fun y M2 ⟨d', f1, f2, h⟩ => rIn_ e2 f1 f2 ⟨_, rfl, h⟩)
theorem gni (hu : X.A.units + 65 < cLine) (h : GE X ρ M a (dl (fun i j M2 => Q (.pu (.bool (!j.any fun z => PyData.eqv z i))) M2) X ρ b)) (hm : behindInMarks .NotIn b = false := by with_unfolding_all rfl) : GE X ρ M (.Compare a [.NotIn] [b] pos) Q := geC (op_notInD hu) hm (h.mono fun x M1 ⟨d, e, e2, h⟩ => e ▸ h.mono fun y M2 ⟨d', f1, f2, h⟩ => rNi_ e2 f1 f2 h)
theorem tni (hu : X.A.units + 65 < cLine) (h : GE X ρ M a (dl (fun i j M2 => QT (!j.any fun z => PyData.eqv z i) M2) X ρ b)) (hm : behindInMarks .NotIn b = false := by with_unfolding_all rfl) : GT X ρ M (.Compare a [.NotIn] [b] pos) QT := gtC (op_notInD hu) hm (h.mono fun x M1 ⟨d, e, e2, h⟩ => e ▸ h.mono fun y M2 ⟨d', f1, f2, h⟩ => rNi_ e2 f1 f2 ⟨_, rfl, h⟩)

/-! ### tests -/
theorem tval (h : GE X ρ M e (bo QT)) (he : ∀ whole, isTrue e X.env whole = (do let v ← whole; standAt e.pos; holding [v] (truthy v)) := by intro _; rfl) : GT X ρ M e QT := .mk fun B F H σ Q' W S s => by
  refine wT_of (pt_val pE he) (h B F H σ _ W S fun r M1 v F1 H1 hx W1 s1 vx => ?_)
  exact satB s r M1 v F1 H1 hx W1 s1 vx
theorem tand1 (h : GT X ρ M a QT) : GW X ρ M (.BoolOp .And [a] pos) QT := .mk fun B F H σ Q' W S s => wW_of (pw_and1 pT) (h B F H σ Q' W S s)
theorem tor1 (h : GT X ρ M a QT) : GW X ρ M (.BoolOp .Or [a] pos) QT := .mk fun B F H σ Q' W S s => wW_of (pw_or1 pT) (h B F H σ Q' W S s)
theorem tandW (h : GT X ρ M a fun k M1 => if k = true then GW X ρ M1 (.BoolOp .And (b :: es) pos) QT else QT false M1) : GW X ρ M (.BoolOp .And (a :: b :: es) pos) QT := .mk fun B F H σ Q' W S s => by
  refine wW_of (pw_and pT pW) (h B F H σ _ W S fun k M1 F1 H1 hx W1 s1 => ?_)
  cases k with
  | true => exact iteT ((show GW X ρ M1 _ QT from hx) B F1 H1 σ Q' W1 (pMono s1 S) (s.mono s1))
  | false => exact iteF (s _ M1 F1 H1 hx W1 s1)
theorem torW (h : GT X ρ M a fun k M1 => if k = true then QT true M1 else GW X ρ M1 (.BoolOp .Or (b :: es) pos) QT) : GW X ρ M (.BoolOp .Or (a :: b :: es) pos) QT := .mk fun B F H σ Q' W S s => by
  refine wW_of (pw_or pT pW) (h B F H σ _ W S fun k M1 F1 H1 hx W1 s1 => ?_)
  cases k with
  | true => exact iteT (s _ M1 F1 H1 hx W1 s1)
  | false => exact iteF ((show GW X ρ M1 _ QT from hx) B F1 H1 σ Q' W1 (pMono s1 S) (s.mono s1))
theorem tw (h : GW X ρ M a QT) : GT X ρ M a QT := .mk fun B F H σ Q' W S s => wT_of pW.pt (h B F H σ Q' W S s)
theorem tand (h : GT X ρ M a fun k M1 => if k = true then GT X ρ M1 b QT else QT false M1) : GT X ρ M (.BoolOp .And [a, b] pos) QT := tw (tandW (h.mono fun k M1 q => by
  cases k with
  | true => exact tand1 q
  | false => exact q))
theorem tor (h : GT X ρ M a fun k M1 => if k = true then QT true M1 else GT X ρ M1 b QT) : GT X ρ M (.BoolOp .Or [a, b] pos) QT := tw (torW (h.mono fun k M1 q => by
  cases k with
  | true => exact q
  | false => exact tor1 q))
theorem tnot (h : GT X ρ M a fun k M1 => QT (!k) M1) : GT X ρ M (.UnaryOp .Not a pos) QT := .mk fun B F H σ Q' W S s => by
  refine wT_of (pt_not pT) (h B F H σ _ W S fun k M1 F1 H1 hx W1 s1 => ?_)
  exact s _ M1 F1 H1 hx W1 s1
/-- as values -/
theorem gone {op : BoolOp} (h : GE X ρ M a Q) : GE X ρ M (.BoolOp op [a] pos) Q := .mk fun B F H σ Q' W S s => wE_of (pe_one pE) (h B F H σ Q' W S s)
theorem gandV (h : GE X ρ M a (bo fun k M1 => if k = true then GE X ρ M1 (.BoolOp .And (b :: es) pos) Q else Q (.pu (.bool false)) M1)) : GE X ρ M (.BoolOp .And (a :: b :: es) pos) Q := .mk fun B F H σ Q' W S s => by
  refine wE_of (pe_and pE pE) (h B F H σ _ W S fun r M1 v F1 H1 hx W1 s1 vx => ?_)
  obtain ⟨k, rfl, hx⟩ := hx
  have vx : Dt F1 v (.bool k) := vx
  cases vx
  refine ⟨k, rfl, ?_⟩
  cases k with
  | true => exact iteT ((show GE X ρ M1 _ Q from hx) B F1 H1 σ Q' W1 (pMono s1 S) (s.mono s1))
  | false => exact iteF (s _ M1 _ F1 H1 hx W1 s1 (.bl _))
theorem gorV (h : GE X ρ M a (bo fun k M1 => if k = true then Q (.pu (.bool true)) M1 else GE X ρ M1 (.BoolOp .Or (b :: es) pos) Q)) : GE X ρ M (.BoolOp .Or (a :: b :: es) pos) Q := .mk fun B F H σ Q' W S s => by
  refine wE_of (pe_or pE pE) (h B F H σ _ W S fun r M1 v F1 H1 hx W1 s1 vx => ?_)
  obtain ⟨k, rfl, hx⟩ := hx
  have vx : Dt F1 v (.bool k) := vx
  cases vx
  refine ⟨k, rfl, ?_⟩
  cases k with
  | true => exact iteT (s _ M1 _ F1 H1 hx W1 s1 (.bl _))
  | false => exact iteF ((show GE X ρ M1 _ Q from hx) B F1 H1 σ Q' W1 (pMono s1 S) (s.mono s1))
theorem gand (h : GE X ρ M a (bo fun k M1 => if k = true then GE X ρ M1 b Q else Q (.pu (.bool false)) M1)) : GE X ρ M (.BoolOp .And [a, b] pos) Q := gandV (h.mono fun r M1 ⟨k, e, q⟩ => ⟨k, e, by
  cases k with
  | true => exact gone q
  | false => exact q⟩)
theorem gor (h : GE X ρ M a (bo fun k M1 => if k = true then Q (.pu (.bool true)) M1 else GE X ρ M1 b Q)) : GE X ρ M (.BoolOp .Or [a, b] pos) Q := gorV (h.mono fun r M1 ⟨k, e, q⟩ => ⟨k, e, by
  cases k with
  | true => exact q
  | false => exact gone q⟩)
theorem gnot (h : GE X ρ M a (bo fun k M1 => Q (.pu (.bool (!k))) M1)) : GE X ρ M (.UnaryOp .Not a pos) Q := .mk fun B F H σ Q' W S s => by
  refine wE_of (pe_not pE) (h B F H σ _ W S fun r M1 v F1 H1 hx W1 s1 vx => ?_)
  obtain ⟨k, rfl, hx⟩ := hx
  have vx : Dt F1 v (.bool k) := vx
  cases vx
  exact ⟨k, rfl, s _ M1 _ F1 H1 hx W1 s1 (.bl _)⟩
theorem gife (h : GT X ρ M c fun k M1 => if k = true then GE X ρ M1 a Q else GE X ρ M1 b Q) : GE X ρ M (.IfExp c a b pos) Q := .mk fun B F H σ Q' W S s => by
  refine wE_of (pe_ifExp pT pE pE) (h B F H σ _ W S fun k M1 F1 H1 hx W1 s1 => ?_)
  cases k with
  | true => exact iteT ((show GE X ρ M1 a Q from hx) B F1 H1 σ Q' W1 (pMono s1 S) (s.mono s1))
  | false => exact iteF ((show GE X ρ M1 b Q from hx) B F1 H1 σ Q' W1 (pMono s1 S) (s.mono s1))

/-! ### argument lists, displays -/
theorem anil (q : QA [] M) : GA X ρ M [] QA := .mk fun B F H σ Q' W S s => wA_of pa_nil (s _ M _ F H q W (Same.refl F) .nil)
theorem acons (h : GE X ρ M e fun r M1 => GA X ρ M1 es fun rs M2 => QA (r :: rs) M2) (hs : starEach (e :: es) X.env = (false, eval e X.env) :: starEach es X.env := by rfl) : GA X ρ M (e :: es) QA := .mk fun B F H σ Q' W S s => by
  refine wA_of (pa_cons pE pA hs) (h B F H σ _ W S fun r M1 v F1 H1 hx W1 s1 vx => ?_)
  refine hx B F1 H1 σ _ W1 (pMono s1 S) fun rs M2 vs F2 H2 hy W2 s2 vy => ?_
  exact s _ M2 _ F2 H2 hy W2 (s1.trans s2) (.cons (vx.mono s2) vy)
theorem knil (q : QA [] M) : GK X ρ M [] QA := .mk fun B F H σ Q' W S s => wK_of pk_nil (s _ M _ F H q W (Same.refl F) .nil)
theorem kcons {kws : List Keyword} {nm : Option Str} {kp : Pos} (h : GE X ρ M e fun r M1 => GK X ρ M1 kws fun rs M2 => QA (r :: rs) M2) : GK X ρ M (⟨nm, e, kp⟩ :: kws) QA := .mk fun B F H σ Q' W S s => by
  refine wK_of (pk_cons pE pK) (h B F H σ _ W S fun r M1 v F1 H1 hx W1 s1 vx => ?_)
  refine hx B F1 H1 σ _ W1 (pMono s1 S) fun rs M2 vs F2 H2 hy W2 s2 vy => ?_
  exact s _ M2 _ F2 H2 hy W2 (s1.trans s2) (.cons (vx.mono s2) vy)
/-- [a, b, ..]: a new list -/
theorem glst (h : GA X ρ M es fun rs M1 => rs.length ≤ 100000 ∧ ∀ l, Q (.rf (.ref l)) ((l, .lst rs) :: M1)) : GE X ρ M (.List es pos) Q := .mk fun B F H σ Q' W S s => by
  refine wE_of (pe_lst pA) (h B F H σ _ W S fun rs M1 vs F1 H1 hx W1 s1 vx => ?_)
  obtain ⟨hl, q⟩ := hx
  have el : vs.length = rs.length := Paired.length vx
  refine ⟨by rw [el]; exact Nat.le_trans hl (by decide), fun p hp => ?_⟩
  exact s _ _ _ F1 _ (q p) (W1.newl hp vx) s1 rfl
/-- (a, b, ..) of data -/
theorem all_pu {F : Hp} : ∀ {vs : List V} {ds : List PyData}, Paired (VOk F) vs (ds.map .pu) → DtA F vs ds
  | _, [], .nil => .nil
  | _, _ :: _, .cons a b => .cons a (all_pu b)
theorem gtup {x1 : Nat} (h : GA X ρ M es fun rs M1 => ∃ ds, rs = ds.map .pu ∧ ds.length ≤ 100000 ∧ Q (.pu (.tuple ds)) M1) : GE X ρ M (.Tuple es x1 pos) Q := .mk fun B F H σ Q' W S s => by
  refine wE_of (pe_tup pA) (h B F H σ _ W S fun rs M1 vs F1 H1 hx W1 s1 vx => ?_)
  obtain ⟨ds, rfl, hl, q⟩ := hx
  have dx := all_pu vx
  refine ⟨by rw [dx.length]; exact Nat.le_trans hl (by decide), fun p hp => ?_⟩
  obtain ⟨W2, s2⟩ := W1.froz (o := .tup vs) hp
  exact s _ _ _ _ _ q W2 (s1.trans s2) (.tup upd_same (DtA.mono s2 dx))

/-! ### parts -/
inductive Item (M : Mem) : SD → Int → SD → Prop
  | lst {ds : List PyData} {i : Int} {d : PyData} : atI ds i = some d → Item M (.pu (.list ds)) i (.pu d)
  | tup {ds : List PyData} {i : Int} {d : PyData} : atI ds i = some d → Item M (.pu (.tuple ds)) i (.pu d)
  | mem {l : Addr} {xs : List SD} {i : Int} {r : SD} : (l, MO.lst xs) ∈ M → atI xs i = some r → Item M (.rf (.ref l)) i r
theorem atI_rel {α β : Type} {R : α → β → Prop} (xs : List α) (ys : List β) (hl : xs.length = ys.length) (hg : ∀ (i : Nat) (y : β), ys[i]? = some y → ∃ x, xs[i]? = some x ∧ R x y) {i : Int} {y : β} (h : atI ys i = some y) : ∃ x, atI xs i = some x ∧ R x y := by
  unfold atI at h ⊢
  rw [hl]
  cases e : ixN ys.length i with
  | none =>
    rw [e] at h
    cases h
  | some j =>
    rw [e] at h
    exact hg j y h
theorem paired_at {F : Hp} : ∀ {vs : List V} {xs : List SD} {i : Nat} {r : SD}, Paired (VOk F) vs xs → xs[i]? = some r → ∃ v, vs[i]? = some v ∧ VOk F v r
  | _, _, i, _, .nil, h => by simp at h
  | _, _, 0, r, .cons a b, h => by
    have e : _ = r := Option.some.inj h
    subst e
    exact ⟨_, rfl, a⟩
  | _, _, i + 1, r, .cons a b, h => by
    obtain ⟨o, e1, e2⟩ := paired_at (i := i) b (by simpa using h)
    exact ⟨o, by simpa using e1, e2⟩
theorem gix (h : GE X ρ M a fun x M1 => GE X ρ M1 b fun y M2 => ∃ i r, y = .pu (.int i) ∧ Item M2 x i r ∧ Q r M2) (hs : PlainIx b := by intro _ _; rfl) : GE X ρ M (.Subscript a b pos) Q := .mk fun B F H σ Q' W S s => by
  refine wE_of (pe_ix ix_seq pE pE hs) (h B F H σ _ W S fun x M1 v F1 H1 hx W1 s1 vx => ?_)
  refine hx B F1 H1 σ _ W1 (pMono s1 S) fun y M2 w F2 H2 hy W2 s2 wy => ?_
  obtain ⟨i, r, rfl, it, q⟩ := hy
  have wy : Dt F2 w (.int i) := wy
  cases wy
  have vx := vx.mono s2
  cases it with
  | lst ha =>
    have vx : Dt F2 v (.list _) := vx
    cases vx with
    | lst h1 h2 =>
      obtain ⟨u, e1, e2⟩ := atI_rel (R := Dt F2) _ _ h2.length (fun i d e => h2.get e) ha
      exact .inl ⟨_, _, i, u, rfl, rfl, .of (W2.fh _ _ h1), e1, s _ M2 _ F2 H2 q W2 (s1.trans s2) e2⟩
  | tup ha =>
    have vx : Dt F2 v (.tuple _) := vx
    cases vx with
    | tup h1 h2 =>
      obtain ⟨u, e1, e2⟩ := atI_rel (R := Dt F2) _ _ h2.length (fun i d e => h2.get e) ha
      exact .inr (.inl ⟨_, _, i, u, rfl, rfl, .of (W2.fh _ _ h1), e1, s _ M2 _ F2 H2 q W2 (s1.trans s2) e2⟩)
  | mem hm ha =>
    have vx : v = .ref _ := vx
    subst vx
    obtain ⟨f1, vs, f2, f3⟩ := W2.mem _ hm
    obtain ⟨u, e1, e2⟩ := atI_rel (R := VOk F2) _ _ (Paired.length f3) (fun i d e => paired_at f3 e) ha
    exact .inl ⟨_, _, i, u, rfl, rfl, .of f2, e1, s _ M2 _ F2 H2 q W2 (s1.trans s2) e2⟩
end
end G

namespace G
open PySem PySem.Spec PyProof.Rows L2
section
variable {X : Cx} {ρ : List SD} {M : Mem} {Q : Kn} {QT : Bool → Mem → Prop} {QA : List SD → Mem → Prop} {pos : Pos} {a b c e : Expr} {es : List Expr}

/-! ### a list's items, frozen or not -/
inductive LV (M : Mem) : SD → List SD → Prop
  | pu {ds : List PyData} : LV M (.pu (.list ds)) (ds.map .pu)
  | mem {l : Addr} {xs : List SD} : (l, MO.lst xs) ∈ M → LV M (.rf (.ref l)) xs
theorem pair_pu {F : Hp} : ∀ {vs : List V} {ds : List PyData}, DtA F vs ds → Paired (VOk F) vs (ds.map .pu)
  | _, _, .nil => .nil
  | _, _, .cons a b => .cons a (pair_pu b)
theorem LV.at {B : Bs} {F H : Hp} {v : V} {r : SD} {xs : List SD} (W : Wd B F H M) (h : LV M r xs) (hv : VOk F v r) : ∃ p vs, v = .ref p ∧ H p = some (.lst vs) ∧ Paired (VOk F) vs xs := by
  cases h with
  | pu =>
    have hv : Dt F v (.list _) := hv
    cases hv with
    | lst h1 h2 => exact ⟨_, _, rfl, W.fh _ _ h1, pair_pu h2⟩
  | mem hm =>
    have hv : v = .ref _ := hv
    subst hv
    obtain ⟨f1, vs, f2, f3⟩ := W.mem _ hm
    exact ⟨_, vs, rfl, f2, f3⟩
theorem LV.md : ∀ {r : SD} {ds : List PyData}, LV M r (ds.map .pu) → MD M r (.list ds) := by
  intro r ds h
  generalize hx : ds.map SD.pu = xs at h
  cases h with
  | pu =>
    rename_i ds'
    have e : ds = ds' := by
      have h2 : ∀ (l l' : List PyData), l.map SD.pu = l'.map SD.pu → l = l' := by
        intro l
        induction l with
        | nil => intro l' h; cases l' with
          | nil => rfl
          | cons _ _ => cases h
        | cons x r ih => intro l' h; cases l' with
          | nil => cases h
          | cons y r' =>
            rw [List.map_cons, List.map_cons] at h
            injection h with h1 h2
            injection h1 with h1
            rw [h1, ih r' h2]
      exact h2 _ _ hx
    subst e
    exact .pu _
  | mem hm =>
    subst hx
    refine .mem hm ?_
    clear hm
    induction ds with
    | nil => exact .nil
    | cons d ds ih => exact .cons (.pu d) ih

/-! ### slices -/
def wOpt (X : Cx) : Option Expr → TO
  | none => tNoPart
  | some e => tPart (wE X e)
theorem pOpt : ∀ {o : Option Expr}, PO X o (wOpt X o)
  | none => po_none
  | some _ => po_some pE
def GO (X : Cx) (ρ : List SD) (M : Mem) (Q : Option Int → Mem → Prop) : Option Expr → Prop
  | none => Q none M
  | some e => GE X ρ M e fun r M1 => ∃ i, r = .pu (.int i) ∧ Q (some i) M1
def SatO (B : Bs) (F : Hp) (Q : Option Int → Mem → Prop) (Q' : Option Int → Hp → Prop) : Prop := ∀ b M F' H', Q b M → Wd B F' H' M → Same F F' → Q' b H'
theorem goRun {B : Bs} {F H : Hp} {σ : L2.St} {QO : Option Int → Mem → Prop} {Q' : Option Int → Hp → Prop} (W : Wd B F H M) (S : Paired (SOk F) σ ρ) (s : SatO B F QO Q') : ∀ {o : Option Expr}, GO X ρ M QO o → wOpt X o σ H Q'
  | none, h => s _ M F H h W (Same.refl F)
  | some e, h => (show GE X ρ M e _ from h) B F H σ _ W S fun r M1 v F1 H1 hx W1 s1 vx => by
    obtain ⟨i, rfl, q⟩ := hx
    have vx : Dt F1 v (.int i) := vx
    cases vx
    exact ⟨i, rfl, s _ M1 F1 H1 q W1 s1⟩
def cutL {α : Type} (xs : List α) (lo hi : Option Int) : List α := (xs.drop (HT.sIx xs.length 0 lo)).take (HT.sIx xs.length xs.length hi - HT.sIx xs.length 0 lo)
theorem paired_drop {F : Hp} : ∀ {vs : List V} {xs : List SD} (n : Nat), Paired (VOk F) vs xs → Paired (VOk F) (vs.drop n) (xs.drop n)
  | _, _, 0, a => a
  | _, _, n + 1, .nil => .nil
  | _, _, n + 1, .cons h a => paired_drop n a
theorem paired_take {F : Hp} : ∀ {vs : List V} {xs : List SD} (n : Nat), Paired (VOk F) vs xs → Paired (VOk F) (vs.take n) (xs.take n)
  | _, _, 0, a => .nil
  | _, _, n + 1, .nil => .nil
  | _, _, n + 1, .cons h a => .cons h (paired_take n a)
theorem paired_cut {F : Hp} {vs : List V} {xs : List SD} (lo hi : Option Int) (h : Paired (VOk F) vs xs) : Paired (VOk F) (cutV vs lo hi) (cutL xs lo hi) := by
  unfold cutV cutL
  rw [Paired.length h]
  exact paired_take _ (paired_drop _ h)
/-- xs[lo:hi] of a list: a new list -/
theorem gsl {lo hi : Option Expr} {p2 : Pos} (h : GE X ρ M e fun x M1 => GO X ρ M1 (fun i M2 => GO X ρ M2 (fun j M3 => ∃ xs, LV M3 x xs ∧ ∀ l, Q (.rf (.ref l)) ((l, .lst (cutL xs i j)) :: M3)) hi) lo) : GE X ρ M (.Subscript e (.Slice lo hi none p2) pos) Q := .mk fun B F H σ Q' W S s => by
  refine wE_of (pe_slice sl_list pE pOpt pOpt) (h B F H σ _ W S fun x M1 v F1 H1 hx W1 s1 vx => ?_)
  refine goRun W1 (pMono s1 S) (fun i M2 F2 H2 hy W2 s2 => ?_) hx
  refine goRun W2 (pMono (s1.trans s2) S) (fun j M3 F3 H3 hz W3 s3 => ?_) hy
  obtain ⟨xs, lv, q⟩ := hz
  obtain ⟨p, vs, rfl, hp, pr⟩ := lv.at W3 (SOk.mono (s2.trans s3) vx)
  exact ⟨p, vs, rfl, .of hp, fun q' hq => s _ _ _ F3 _ (q q') (W3.newl hq (paired_cut i j pr)) ((s1.trans s2).trans s3) rfl⟩
theorem paired_app {F : Hp} : ∀ {vs ws : List V} {xs ys : List SD}, Paired (VOk F) vs xs → Paired (VOk F) ws ys → Paired (VOk F) (vs ++ ws) (xs ++ ys)
  | _, _, _, _, .nil, b => b
  | _, _, _, _, .cons h a, b => .cons h (paired_app a b)
/-- xs + ys: a new list -/
theorem gcat (h : GE X ρ M a fun x M1 => GE X ρ M1 b fun y M2 => ∃ xs ys, LV M2 x xs ∧ LV M2 y ys ∧ xs.length + ys.length ≤ 100000 ∧ ∀ l, Q (.rf (.ref l)) ((l, .lst (xs ++ ys)) :: M2)) : GE X ρ M (.BinOp a .Add b pos) Q := ge2 op_cat (h.mono fun x M1 h => h.mono fun y M2 ⟨xs, ys, h1, h2, hl, q⟩ => fun B F H v w Q' W hv hw s => by
  obtain ⟨p, vs, rfl, hp, pr⟩ := h1.at W hv
  obtain ⟨p', vs', rfl, hp', pr'⟩ := h2.at W hw
  exact ⟨p, p', vs, vs', rfl, rfl, hp, hp', by rw [Paired.length pr, Paired.length pr']; exact Nat.le_trans hl (by decide), fun l hl => s _ _ _ F _ (q l) (W.newl hl (paired_app pr pr')) (Same.refl F) rfl⟩)

/-! ### built-in functions -/
theorem gcb {id : String} {x : Str} {p : Pos} {r : List V → Hp → VK → Prop} (hc : CallR X (.builtin id) r) (hm : X.mg x = none) (hv : bootBuiltins x = some (.builtin id)) (h : GA X ρ M (e :: es) fun rs M1 => RC X r rs M1 Q) (hg : Gl X x := by rfl) (hn : x ≠ "__name__" := by decide) (hdb : (x == ("__debug__" : Str)) = false := by decide)
    (he : starEach (e :: es) X.env = (false, eval e X.env) :: starEach es X.env := by rfl) (hpl : (backTo pos (starEach es X.env)).any (·.1) = false := by rfl) : GE X ρ M (.Call (.Name x p) (e :: es) [] pos) Q := .mk fun B F H σ Q' W S s => by
  refine wE_of (pe_callB hc hg hm hv pA hn hdb he hpl) (h B F H σ _ W S fun rs M1 vs F1 H1 hx W1 s1 vx => ?_)
  exact hx B F1 H1 vs Q' W1 vx (s.mono s1)
theorem gct {T : String} {x : Str} {p : Pos} {r : List V → Hp → VK → Prop} (hc : CallR X (.type T) r) (hm : X.mg x = none) (hv : bootBuiltins x = some (.type T)) (h : GA X ρ M (e :: es) fun rs M1 => RC X r rs M1 Q) (hg : Gl X x := by rfl) (hn : x ≠ "__name__" := by decide) (hdb : (x == ("__debug__" : Str)) = false := by decide)
    (he : starEach (e :: es) X.env = (false, eval e X.env) :: starEach es X.env := by rfl) (hpl : (backTo pos (starEach es X.env)).any (·.1) = false := by rfl) : GE X ρ M (.Call (.Name x p) (e :: es) [] pos) Q := .mk fun B F H σ Q' W S s => by
  refine wE_of (pe_callTy hc hg hm hv pA hn hdb he hpl) (h B F H σ _ W S fun rs M1 vs F1 H1 hx W1 s1 vx => ?_)
  exact hx B F1 H1 vs Q' W1 vx (s.mono s1)
theorem p1 {F : Hp} {vs : List V} {r : SD} (h : Paired (VOk F) vs [r]) : ∃ v, vs = [v] ∧ VOk F v r := by
  cases h with
  | cons a b =>
    cases b
    exact ⟨_, rfl, a⟩
theorem p2 {F : Hp} {vs : List V} {r t : SD} (h : Paired (VOk F) vs [r, t]) : ∃ v w, vs = [v, w] ∧ VOk F v r ∧ VOk F w t := by
  cases h with
  | cons a b =>
    obtain ⟨w, e, k⟩ := p1 b
    exact ⟨_, w, by rw [e], a, k⟩
inductive Len (M : Mem) : SD → Nat → Prop
  | lst {r : SD} {xs : List SD} : LV M r xs → Len M r xs.length
  | tup {ds : List PyData} : Len M (.pu (.tuple ds)) ds.length
theorem glen {p : Pos} (hm : X.mg "len" = none) (h : GE X ρ M e fun x M1 => ∃ n, Len M1 x n ∧ Q (.pu (.int (n : Int))) M1) (hg : Gl X "len" := by rfl) (he : starEach [e] X.env = [(false, eval e X.env)] := by rfl) : GE X ρ M (.Call (.Name "len" p) [e] [] pos) Q :=
  gcb call_len_seq hm PySem.boot_len (acons (h.mono fun x M1 ⟨n, hl, q⟩ => anil fun B F H vs Q' W hvs s => by
    obtain ⟨v, rfl, hv⟩ := p1 hvs
    cases hl with
    | lst lv =>
      obtain ⟨p, vs, rfl, hp, pr⟩ := lv.at W hv
      refine ⟨p, vs, rfl, .inl (.of hp), ?_⟩
      rw [Paired.length pr]
      exact s _ M1 _ F H q W (Same.refl F) (.int _)
    | tup =>
      have hv : Dt F v (.tuple _) := hv
      cases hv with
      | tup h1 h2 =>
        refine ⟨_, _, rfl, .inr (.of (W.fh _ _ h1)), ?_⟩
        rw [h2.length]
        exact s _ M1 _ F H q W (Same.refl F) (.int _)) he) hg (he := he)
/-- int(n) of an int -/
theorem gint {p : Pos} (hm : X.mg "int" = none) (h : GE X ρ M e fun x M1 => ∃ i, x = .pu (.int i) ∧ Q (.pu (.int i)) M1) (hg : Gl X "int" := by rfl) (he : starEach [e] X.env = [(false, eval e X.env)] := by rfl) : GE X ρ M (.Call (.Name "int" p) [e] [] pos) Q :=
  gct call_int1 hm PyProof.Rows.boot_int (acons (h.mono fun x M1 ⟨i, ex, q⟩ => anil fun B F H vs Q' W hvs s => by
    subst ex
    obtain ⟨v, rfl, hv⟩ := p1 hvs
    have hv : Dt F v (.int i) := hv
    cases hv
    exact .inl ⟨i, rfl, s _ M1 _ F H q W (Same.refl F) (.int _)⟩) he) hg (he := he)
/-- int(b) of a truth value -/
theorem gintb {p : Pos} (hm : X.mg "int" = none) (h : GE X ρ M e fun x M1 => ∃ k, x = .pu (.bool k) ∧ Q (.pu (.int (if k then 1 else 0))) M1) (hg : Gl X "int" := by rfl) (he : starEach [e] X.env = [(false, eval e X.env)] := by rfl) : GE X ρ M (.Call (.Name "int" p) [e] [] pos) Q :=
  gct call_int1 hm PyProof.Rows.boot_int (acons (h.mono fun x M1 ⟨i, ex, q⟩ => anil fun B F H vs Q' W hvs s => by
    subst ex
    obtain ⟨v, rfl, hv⟩ := p1 hvs
    have hv : Dt F v (.bool i) := hv
    cases hv
    exact .inr ⟨i, rfl, s _ M1 _ F H q W (Same.refl F) (.int _)⟩) he) hg (he := he)
/-- min(i, j) -/
theorem gmin {p : Pos} (hc : X.calm = true) (hm : X.mg "min" = none) (h : GE X ρ M a fun x M1 => ∃ i, x = .pu (.int i) ∧ GE X ρ M1 b fun y M2 => ∃ j, y = .pu (.int j) ∧ Q (.pu (.int (if j < i then j else i))) M2) (hg : Gl X "min" := by rfl) (he : starEach [a, b] X.env = [(false, eval a X.env), (false, eval b X.env)] := by rfl) (he2 : starEach [b] X.env = [(false, eval b X.env)] := by rfl) :
    GE X ρ M (.Call (.Name "min" p) [a, b] [] pos) Q :=
  gcb (call_min2 hc) hm PyProof.Rows.boot_min (acons (h.mono fun x M1 ⟨i, ex, h⟩ => acons (h.mono fun y M2 ⟨j, ey, q⟩ => anil fun B F H vs Q' W hvs s => by
    subst ex ey
    obtain ⟨v, w, rfl, hv, hw⟩ := p2 hvs
    have hv : Dt F v (.int i) := hv
    have hw : Dt F w (.int j) := hw
    cases hv
    cases hw
    exact ⟨i, j, rfl, s _ M2 _ F H q W (Same.refl F) (.int _)⟩) he2) (by rw [he, he2])) hg (he := by rw [he, he2]) (hpl := by rw [he2]; rfl)
/-- list(x) of a list, of a tuple: a new list -/
inductive LTV (M : Mem) : SD → List SD → Prop
  | lst {r : SD} {xs : List SD} : LV M r xs → LTV M r xs
  | tup {ds : List PyData} : LTV M (.pu (.tuple ds)) (ds.map .pu)
theorem glist {p : Pos} (hm : X.mg "list" = none) (h : GE X ρ M e fun x M1 => ∃ xs, LTV M1 x xs ∧ ∀ l, Q (.rf (.ref l)) ((l, .lst xs) :: M1)) (hg : Gl X "list" := by rfl) (he : starEach [e] X.env = [(false, eval e X.env)] := by rfl) : GE X ρ M (.Call (.Name "list" p) [e] [] pos) Q :=
  gct call_list_of hm PyProof.Rows.boot_list (acons (h.mono fun x M1 ⟨xs, hl, q⟩ => anil fun B F H vs Q' W hvs s => by
    obtain ⟨v, rfl, hv⟩ := p1 hvs
    cases hl with
    | lst lv =>
      obtain ⟨p, vs, rfl, hp, pr⟩ := lv.at W hv
      exact ⟨p, vs, rfl, .inl (.of hp), fun l hl => s _ _ _ F _ (q l) (W.newl hl pr) (Same.refl F) rfl⟩
    | tup =>
      have hv : Dt F v (.tuple _) := hv
      cases hv with
      | tup h1 h2 => exact ⟨_, _, rfl, .inr (.of (W.fh _ _ h1)), fun l hl => s _ _ _ F _ (q l) (W.newl hl (pair_pu h2)) (Same.refl F) rfl⟩) he) hg (he := he)
theorem ints_of {F : Hp} : ∀ {vs : List V} {ns : List Int}, Paired (VOk F) vs (ns.map fun n => SD.pu (.int n)) → vs = ns.map V.int
  | _, [], .nil => rfl
  | _, n :: ns, .cons a b => by
    have a : Dt F _ (.int n) := a
    cases a
    rw [ints_of b]
    rfl
theorem of_ints {F : Hp} : ∀ (ns : List Int), Paired (VOk F) (ns.map V.int) (ns.map fun n => SD.pu (.int n))
  | [] => .nil
  | n :: ns => .cons (Dt.int n) (of_ints ns)
abbrev pints (ns : List Int) : List SD := ns.map fun n => SD.pu (.int n)
/-- sorted(xs) of ints: a new list -/
theorem gsorted {p : Pos} (hm : X.mg "sorted" = none) (h : GE X ρ M e fun x M1 => ∃ ns, LV M1 x (pints ns) ∧ ∀ l ns', ns'.Perm ns → ns'.Pairwise (· ≤ ·) → Q (.rf (.ref l)) ((l, .lst (pints ns')) :: M1)) (hg : Gl X "sorted" := by rfl) (he : starEach [e] X.env = [(false, eval e X.env)] := by rfl) : GE X ρ M (.Call (.Name "sorted" p) [e] [] pos) Q :=
  gcb cr_sortedI hm PyProof.Rows.boot_sorted (acons (h.mono fun x M1 ⟨ns, lv, q⟩ => anil fun B F H vs Q' W hvs s => by
    obtain ⟨v, rfl, hv⟩ := p1 hvs
    obtain ⟨p, vs, rfl, hp, pr⟩ := lv.at W hv
    have ev := ints_of pr
    subst ev
    exact ⟨p, ns, rfl, .of hp, fun ns' l h1 h2 hl => s _ _ _ F _ (q l ns' h1 h2) (W.newl hl (of_ints ns')) (Same.refl F) rfl⟩) he) hg (he := he)
/-- sum(xs) of ints -/
theorem gsum {p : Pos} (hc : X.calm = true) (hm : X.mg "sum" = none) (h : GE X ρ M e fun x M1 => ∃ ns, LV M1 x (pints ns) ∧ Q (.pu (.int ns.sum)) M1) (hg : Gl X "sum" := by rfl) (he : starEach [e] X.env = [(false, eval e X.env)] := by rfl) : GE X ρ M (.Call (.Name "sum" p) [e] [] pos) Q :=
  gcb (cr_sum hc) hm PyProof.Rows.boot_sum (acons (h.mono fun x M1 ⟨ns, lv, q⟩ => anil fun B F H vs Q' W hvs s => by
    obtain ⟨v, rfl, hv⟩ := p1 hvs
    obtain ⟨p, vs, rfl, hp, pr⟩ := lv.at W hv
    have ev := ints_of pr
    subst ev
    exact ⟨p, ns, rfl, .of hp, s _ M1 _ F H q W (Same.refl F) (.int _)⟩) he) hg (he := he)
/-- all(xs) of truth values -/
theorem bools_of {F : Hp} : ∀ {vs : List V} {ns : List Bool}, Paired (VOk F) vs (ns.map fun n => SD.pu (.bool n)) → vs = ns.map V.bl
  | _, [], .nil => rfl
  | _, n :: ns, .cons a b => by
    have a : Dt F _ (.bool n) := a
    cases a
    rw [bools_of b]
    rfl
abbrev pbools (ns : List Bool) : List SD := ns.map fun n => SD.pu (.bool n)
theorem gall {p : Pos} (hc : X.calm = true) (hm : X.mg "all" = none) (h : GE X ρ M e fun x M1 => ∃ ns, LV M1 x (pbools ns) ∧ Q (.pu (.bool (ns.all id))) M1) (hg : Gl X "all" := by rfl) (he : starEach [e] X.env = [(false, eval e X.env)] := by rfl) : GE X ρ M (.Call (.Name "all" p) [e] [] pos) Q :=
  gcb (cr_all hc) hm PyProof.Rows.boot_all (acons (h.mono fun x M1 ⟨ns, lv, q⟩ => anil fun B F H vs Q' W hvs s => by
    obtain ⟨v, rfl, hv⟩ := p1 hvs
    obtain ⟨p, vs, rfl, hp, pr⟩ := lv.at W hv
    have ev := bools_of pr
    subst ev
    exact ⟨p, ns, rfl, .of hp, s _ M1 _ F H q W (Same.refl F) (.bl _)⟩) he) hg (he := he)
/-- isinstance(x, T), T a built-in class -/
inductive Ty (M : Mem) : SD → String → Prop
  | non : Ty M (.pu .none) "NoneType"
  | bl (b : Bool) : Ty M (.pu (.bool b)) "bool"
  | int (i : Int) : Ty M (.pu (.int i)) "int"
  | str (x : Str) : Ty M (.pu (.str x)) "str"
  | lst {r : SD} {xs : List SD} : LV M r xs → Ty M r "list"
  | tup (ds : List PyData) : Ty M (.pu (.tuple ds)) "tuple"
theorem gisi {p : Pos} (hm : X.mg "isinstance" = none) (h : GE X ρ M a fun x M1 => GE X ρ M1 b fun y M2 => ∃ T n k, Ty M2 x T ∧ y = .rf (.ty n) ∧ kitB T n = some k ∧ Q (.pu (.bool k)) M2) (hg : Gl X "isinstance" := by rfl) (he : starEach [a, b] X.env = [(false, eval a X.env), (false, eval b X.env)] := by rfl) (he2 : starEach [b] X.env = [(false, eval b X.env)] := by rfl) :
    GE X ρ M (.Call (.Name "isinstance" p) [a, b] [] pos) Q :=
  gcb call_isi hm PyProof.Rows.boot_isinstance (acons (h.mono fun x M1 h => acons (h.mono fun y M2 ⟨T, n, k, ty, ey, hk, q⟩ => anil fun B F H vs Q' W hvs s => by
    subst ey
    obtain ⟨v, w, rfl, hv, hw⟩ := p2 hvs
    have hw : w = .ty n := hw
    subst hw
    have fin := s _ M2 _ F H q W (Same.refl F) (.bl k)
    cases ty with
    | non =>
      have hv : Dt F v .none := hv
      cases hv
      exact ⟨_, _, _, _, k, rfl, .ty n, .base .non, kit_ty hk, fin⟩
    | bl b =>
      have hv : Dt F v (.bool b) := hv
      cases hv
      exact ⟨_, _, _, _, k, rfl, .ty n, .base (.bl b), kit_ty hk, fin⟩
    | int i =>
      have hv : Dt F v (.int i) := hv
      cases hv
      exact ⟨_, _, _, _, k, rfl, .ty n, .base (.int i), kit_ty hk, fin⟩
    | str i =>
      have hv : Dt F v (.str i) := hv
      cases hv
      exact ⟨_, _, _, _, k, rfl, .ty n, .base (.str i), kit_ty hk, fin⟩
    | lst lv =>
      obtain ⟨p, vs, rfl, hp, pr⟩ := lv.at W hv
      exact ⟨_, _, _, _, k, rfl, .ty n, .base (.lst hp), kit_ty hk, fin⟩
    | tup ds =>
      have hv : Dt F v (.tuple ds) := hv
      cases hv with
      | tup h1 h2 => exact ⟨_, _, _, _, k, rfl, .ty n, .base (.tup (W.fh _ _ h1)), kit_ty hk, fin⟩) he2) (by rw [he, he2])) hg (he := by rw [he, he2]) (hpl := by rw [he2]; rfl)

/-! ### repr -/
def rRepr (K : PySem.W.Frag) : List V → Hp → VK → Prop := fun xs H Q => ∃ v d, xs = [v] ∧ Dp K H v d ∧ d.showable = true ∧ d.hasDict = false ∧ d.depth ≤ 20 ∧ d.shown.length ≤ sizeLine ∧ Q (.str d.shown) H
theorem cr_repr (hgd : X.A.guards = some []) (hu : X.A.units + 64 < cLine) : CallR X (.builtin "repr") (rRepr X.K) := by
  intro pins s σ H xs us Q I r h
  obtain ⟨v, d, rfl, hd, h1, h2, h3, h4, q⟩ := h
  obtain ⟨u, rfl, ru⟩ := vals1 r
  obtain ⟨as, rd⟩ := Dp.reads I d v u hd ru
  have fin : ∀ h' t tk, (∀ b o, s.heap.get? b = some o → h'.get? b = some o) → EP X pins σ Q (.str d.shown t) { s with heap := h', toks := tk } := fun h' t tk k => ⟨.str d.shown, H, I.kept k, ⟨t, rfl⟩, q⟩
  cases hd with
  | non =>
    obtain rfl : u = .none := ru
    exact PySem.P.repr_of_none (fin s.heap _ _ fun _ _ e => e)
  | bl b =>
    obtain rfl : u = .bool b := ru
    exact PySem.P.repr_of_bool (b := b) (fin s.heap _ _ fun _ _ e => e)
  | int i =>
    obtain ⟨t, rfl⟩ := ru
    exact PySem.P.repr_of_int (by simpa [PyData.showable] using h1) (fin s.heap _ _ fun _ _ e => e)
  | str i =>
    obtain ⟨t, rfl⟩ := ru
    exact PySem.P.repr_of_str (fin s.heap _ _ fun _ _ e => e) h4
  | lst _ _ =>
    obtain rfl : u = .ref _ := ru
    exact repr_of_reads' rd h1 (fun z => by rw [h2] at z; cases z) hgd (by omega) (fun _ _ e => e) (fun h' u tk k => fin h' u tk k) h4
  | tup _ _ =>
    obtain rfl : u = .ref _ := ru
    exact repr_of_reads' rd h1 (fun z => by rw [h2] at z; cases z) hgd (by omega) (fun _ _ e => e) (fun h' u tk k => fin h' u tk k) h4
structure Shows (d : PyData) : Prop where
  sh : d.showable = true
  nd : d.hasDict = false
  dp : d.depth ≤ 20
  sz : d.shown.length ≤ sizeLine
theorem grepr {p : Pos} (hgd : X.A.guards = some []) (hu : X.A.units + 64 < cLine) (hm : X.mg "repr" = none) (h : GE X ρ M e fun x M1 => ∃ d, MD M1 x d ∧ Shows d ∧ Q (.pu (.str d.shown)) M1) (hg : Gl X "repr" := by rfl) (he : starEach [e] X.env = [(false, eval e X.env)] := by rfl) : GE X ρ M (.Call (.Name "repr" p) [e] [] pos) Q :=
  gcb (cr_repr hgd hu) hm PyProof.Rows.boot_repr (acons (h.mono fun x M1 ⟨d, md, sh, q⟩ => anil fun B F H vs Q' W hvs s => by
    obtain ⟨v, rfl, hv⟩ := p1 hvs
    exact ⟨v, d, rfl, (md.dt W hv).dp, sh.sh, sh.nd, sh.dp, sh.sz, s _ M1 _ F H q W (Same.refl F) (.str _)⟩) he) hg (he := he)
end
end G

namespace G
open PySem PySem.Spec PyProof.Rows L2
/-! ### the promise of a def -/
abbrev GSpec := List SD → Mem → Kn → Prop
def spG (S : GSpec) : Sp := fun vs H Q _ => ∃ F rs M Kk, Paired (VOk F) vs rs ∧ Wd (here F H M) F H M ∧ S rs M Kk ∧ Sat (here F H M) F Kk Q
structure FnG (P : Program) (w : World) (K : PySem.W.Frag) (mg : Str → Option Value) (base : Heap) (k : Nat) (f : Addr) (fd : FuncData) (ps : List Str) (S : GSpec) : Prop where
  len : ∀ rs M Kk, S rs M Kk → rs.length = ps.length
  run : ∀ (A : Around) (outer : List Env) (s : Shared) (H : Hp) (args : Args) (us : List Value) (vs : List V) (Q : VK),
    A.guards = some [] → Room k A → Env0 P w K mg base A outer s H → BindsTo s fd args (ps.zip us) → Vals vs us → spG S vs H Q E0 →
    codeAny (model P w) A (.call (.ref f) args) (CR CX0 outer P w H s Q E0) s
theorem FnG.mono {P : Program} {w : World} {K : PySem.W.Frag} {mg : Str → Option Value} {base : Heap} {j k : Nat} {f : Addr} {fd : FuncData} {ps : List Str} {S : GSpec} (F : FnG P w K mg base j f fd ps S) (h : j ≤ k) : FnG P w K mg base k f fd ps S :=
  ⟨F.len, fun A o s H args us vs Q g hr => F.run A o s H args us vs Q g (hr.mono h)⟩
section
variable {X : Cx} {ρ : List SD} {M : Mem} {Q : Kn} {QT : Bool → Mem → Prop} {QA : List SD → Mem → Prop} {pos : Pos} {a b c e : Expr} {es : List Expr} {k : Nat} {f : Addr} {fd : FuncData} {ps : List Str} {S : GSpec}
theorem spG_len (F : FnG X.prog X.w X.K X.mg X.base k f fd ps S) {vs : List V} {H : Hp} {Q' : VK} (h : spG S vs H Q' E0) : vs.length = ps.length := by
  obtain ⟨F', rs, M', Kk, h1, _, h2, _⟩ := h
  rw [Paired.length h1]
  exact F.len _ _ _ h2
/-- the callee runs -/
theorem runG {args : Args} {us : List Value} {vs : List V} {Q' : VK} {pins : List (Addr × Obj)} {σ : L2.St} {H : Hp} {s : Shared}
    (F : FnG X.prog X.w X.K X.mg X.base k f fd ps S) (hgd : X.A.guards = some []) (hr : Room k X.A) (hb : BindsTo s fd args (ps.zip us))
    (I : Inv X pins σ H s) (r : Vals vs us) (h : spG S vs H Q' E0) :
    wpAny (model X.prog X.w) X.A (call (.ref f) args.pos args.kw) (EP X pins σ Q') X.xe s := by
  have z := F.run X.A X.stack s H args us vs Q' hgd hr I.env0 hb r h
  refine wpAny_call (codeAny_mono z fun res s' hq => ?_)
  match res, hq with
  | .error _, hq => exact False.elim hq
  | .ok (.ret _), hq => exact I.after hq
  | .ok .next, hq => exact False.elim hq
  | .ok .brk, hq => exact False.elim hq
  | .ok .cont, hq => exact False.elim hq
/-- from what the caller knows to what the callee asks -/
theorem toSp {B : Bs} {F H : Hp} {M1 Ma Mr : Mem} {rs : List SD} {vs : List V} {Q' : VK} (W : Wd B F H M1) (hp : M1.Perm (Ma ++ Mr)) (vx : Paired (VOk F) vs rs)
    (h : S rs Ma fun r M' => Q r (M' ++ Mr)) (s : Sat B F Q Q') : spG S vs H Q' E0 := by
  have W1 := W.perm hp
  have W2 := W1.sub (List.sublist_append_left Ma Mr)
  refine ⟨F, rs, Ma, _, vx, W2.here, h, fun r M' v F' H' q W' s' vv => ?_⟩
  exact s r _ v F' H' q (W1.frame W') s' vv
/-- f(e, ..) -/
theorem gcall {x : Str} {p : Pos} (F : FnG X.prog X.w X.K X.mg X.base k f fd ps S) (hgd : X.A.guards = some []) (hr : Room k X.A) (hm : X.mg x = some (.ref f)) (hk : PySem.W.keepIn X.K (.ref f) = true) (hb : Binds X.K fd ps [])
    (h : GA X ρ M (e :: es) fun rs M1 => ∃ Ma Mr, M1.Perm (Ma ++ Mr) ∧ S rs Ma fun r M' => Q r (M' ++ Mr)) (hg : Gl X x := by rfl) (hdb : (x == ("__debug__" : Str)) = false := by decide)
    (he : starEach (e :: es) X.env = (false, eval e X.env) :: starEach es X.env := by rfl) (hpl : (backTo pos (starEach es X.env)).any (·.1) = false := by rfl) : GE X ρ M (.Call (.Name x p) (e :: es) [] pos) Q := .mk fun B F' H σ Q' W S' s => by
  intro pins st I
  refine wpAny_Call_Name_kw (ld_glob I hg hm ?_ hdb)
  have z := h B F' H σ (fun vs H1 => spG S vs H1 Q' E0) W S' fun rs M1 vs F1 H1 hx W1 s1 vx => by
    obtain ⟨Ma, Mr, hp, hs⟩ := hx
    exact toSp W1 hp vx hs (s.mono s1)
  refine PySem.W.callWith_K (h₀ := X.base) I.ok.mod.kin hk (thn (z pos pins st I) fun us s1 hh => ?_) he hpl
  obtain ⟨vs, H1, I1, r, q⟩ := hh
  refine ⟨I1.kIn, ?_⟩
  have hl : (us ++ []).length = ps.length := by
    rw [List.append_nil, ← r.length]
    exact spG_len F q
  have hb' := hb s1 us I1.kIn hl
  rw [List.append_nil] at hb'
  exact runG (args := ⟨us, []⟩) F hgd hr hb' I1 r q
theorem gcall0 {x : Str} {p : Pos} (F : FnG X.prog X.w X.K X.mg X.base k f fd ps S) (hgd : X.A.guards = some []) (hr : Room k X.A) (hm : X.mg x = some (.ref f)) (hk : PySem.W.keepIn X.K (.ref f) = true) (hb : Binds X.K fd ps [])
    (h : S [] [] fun r M' => Q r (M' ++ M)) (hg : Gl X x := by rfl) (hdb : (x == ("__debug__" : Str)) = false := by decide) : GE X ρ M (.Call (.Name x p) [] [] pos) Q := .mk fun B F' H σ Q' W S' s => by
  intro pins st I
  refine wpAny_Call_Name_kw (ld_glob I hg hm ?_ hdb)
  have q : spG S [] H Q' E0 := toSp (Ma := []) W (List.Perm.refl _) .nil h s
  have hl : (([] : List Value) ++ []).length = ps.length := spG_len F q
  have hb' := hb st [] I.kIn hl
  exact PySem.W.callWith_K0 I.kIn hk (runG (args := ⟨[], []⟩) (us := []) F hgd hr hb' I .nil q)
/-- f(k = e, ..): the keywords alone; g puts their values in the parameters' order -/
structure KwB (K : PySem.W.Frag) (fd : FuncData) (ps ks : List Str) (g : {α : Type} → List α → List α) : Prop where
  to : ∀ (s : Shared) (ws : List Value), K.In s.heap → ws.length = ks.length → BindsTo s fd ⟨[], ks.zip ws⟩ (ps.zip (g ws))
  rel : ∀ {α β : Type} {R : α → β → Prop} {xs : List α} {ys : List β}, xs.length = ks.length → Paired R xs ys → Paired R (g xs) (g ys)
theorem gcallK {x : Str} {p : Pos} {ks : List Str} {kw : Keyword} {kws : List Keyword} {g : {α : Type} → List α → List α} (F : FnG X.prog X.w X.K X.mg X.base k f fd ps S) (hgd : X.A.guards = some []) (hr : Room k X.A) (hm : X.mg x = some (.ref f)) (hk : PySem.W.keepIn X.K (.ref f) = true) (hb : KwB X.K fd ps ks g)
    (h : GK X ρ M (kw :: kws) fun rs M1 => rs.length = ks.length ∧ ∃ Ma Mr, M1.Perm (Ma ++ Mr) ∧ S (g rs) Ma fun r M' => Q r (M' ++ Mr)) (hg : Gl X x := by rfl) (hdb : (x == ("__debug__" : Str)) = false := by decide)
    (hall : (backToKw pos (keywordEach (kw :: kws) X.env)).all (·.1.isSome) = true := by rfl) (hks : (backToKw pos (keywordEach (kw :: kws) X.env)).filterMap (·.1) = ks := by rfl)
    (hpl : ((backTo pos (starEach [] X.env)).any (·.1) || (backToKw pos (keywordEach (kw :: kws) X.env)).any (·.1.isNone)) = false := by rfl) : GE X ρ M (.Call (.Name x p) [] (kw :: kws) pos) Q := .mk fun B F' H σ Q' W S' s => by
  intro pins st I
  refine wpAny_Call_Name_kw (ld_glob I hg hm ?_ hdb)
  have z := h B F' H σ (fun vs H1 => vs.length = ks.length ∧ spG S (g vs) H1 Q' E0) W S' fun rs M1 vs F1 H1 hx W1 s1 vx => by
    obtain ⟨hl, Ma, Mr, hp, hs⟩ := hx
    have hl' : vs.length = ks.length := (Paired.length vx).trans hl
    exact ⟨hl', toSp W1 hp (hb.rel hl' vx) hs (s.mono s1)⟩
  refine PySem.W.callWith_KW0 (h₀ := X.base) I.ok.mod.kin hk hall (thn (z pos pins st I) fun us s1 hh => ?_) hpl
  obtain ⟨vs, H1, I1, r, hl, q⟩ := hh
  refine ⟨I1.kIn, ?_⟩
  rw [hks]
  have hl' : us.length = ks.length := r.length.symm.trans hl
  exact runG (args := ⟨[], ks.zip us⟩) F hgd hr (hb.to s1 us I1.kIn hl') I1 (hb.rel hl r) q
end

/-- THE RULE for a def: its body, from its arguments -/
theorem paired_start {F : Hp} {N : List Str} {vs : List V} {rs : List SD} (h : Paired (VOk F) vs rs) : Paired (SOk F) (L2.start N vs) (rs ++ List.replicate (N.length - rs.length) .un) := by
  unfold L2.start
  rw [Paired.length h]
  have rep : ∀ n : Nat, Paired (SOk F) (List.replicate n none) (List.replicate n .un) := by
    intro n
    induction n with
    | zero => exact .nil
    | succ n ih => exact .cons SOk.un ih
  generalize N.length - rs.length = n
  induction h with
  | nil => exact rep n
  | cons x y ih => exact .cons x ih
abbrev bodyX (P : Program) (w : World) (K : PySem.W.Frag) (mg : Str → Option Value) (base : Heap) (N : List Str) (qual : Str) (st : Stmt) (f : Addr) (cdv : Value) (A : Around) (outer : List Env) (s : Shared) (H : Hp) : Cx :=
  (cxOf CX0 P w K mg base N qual (defScope st) f cdv A outer s H E0).nox
abbrev bodyD (Kk : Kn) : GD := ⟨fun _ M' => Kk (.pu .none) M', Kk, fun _ _ => False, fun _ _ => False⟩
section
variable {P : Program} {w : World} {K : PySem.W.Frag} {mg : Str → Option Value} {base : Heap}
theorem fnG {x qual : Str} {st : Stmt} {f : Addr} {fd : FuncData} {N ps : List Str} {k : Nat} {S : GSpec} (F : Fun K x qual st f fd) (Sc : FnScope N ps (defScope st)) (len : ∀ rs M Kk, S rs M Kk → rs.length = ps.length)
    (body : ∀ (cdv : Value) (A : Around) (outer : List Env) (s : Shared) (H : Hp), A.guards = some [] → Room k (A.deeper (envOfC qual (defScope st) s.heap.objs.size f cdv)) →
      ∀ rs M Kk, S rs M Kk → GB (bodyX P w K mg base N qual st f cdv A outer s H) (rs ++ List.replicate (N.length - rs.length) .un) M (defBody st) (bodyD Kk)) :
    FnG P w K mg base (k + 1) f fd ps S := by
  obtain ⟨oc, od, kV, doc, pm, an, cdv, ct, osl, rfl, lk, hcd⟩ := F.ex
  refine ⟨len, fun A outer s H args us vs Q hgd hr e0 hb r hsp => ?_⟩
  obtain ⟨F', rs, M', Kk, hv, W, hS, sat⟩ := hsp
  have hl : vs.length = ps.length := by
    rw [Paired.length hv]
    exact len _ _ _ hS
  have old : ∀ b o, base.get? b = some o → s.heap.get? b = some o := fun b o q => (e0.bs b o q).1
  have KX : K.In s.heap := e0.mod.kin.keeps old
  have lim : s.heap.NoLimit := e0.mod.nolimit.keeps old
  have hkd : ∀ y ∈ ps.zip us, (defScope st).names.lookup y.1 = some .local ∨
      ((defScope st).names.lookup y.1 = some .cell ∧ ((cellsFrom (s.heap.objs.size + 1) (defScope st).names []).lookup y.1).isSome = true) := by
    rintro ⟨n, v⟩ hy
    rcases Sc.par n (List.of_mem_zip hy).1 with q | q
    · left
      exact q
    · right
      exact ⟨q, PySem.W.cellsFrom_some _ _ _ (.inl q)⟩
  refine codeAny_call_function hr.depth (KX _ _ lk) rfl Sc.co Sc.gen rfl (PySem.W.codeRec_of KX hcd) (hb _ _ _ _ ?_)
  refine wpAny_newFunctionEnv_cells Sc.kind hkd fun env he s1 hx => ?_
  subst he
  refine ⟨lim.keeps hx.toInCall.keep, codeAny_func ?_⟩
  have I := inv_start (CX := CX0) (E := E0) Sc hr.hd e0 hl r hx
  have G0 := body cdv A outer s H hgd (hr.deeper _) rs M' Kk hS
  have satS : SatS (here F' H M') F' (bodyD Kk) { nx := fun _ H' => Q .non H', rt := Q } := by
    refine ⟨?_, sat, fun _ _ _ _ _ q => False.elim q, fun _ _ _ _ _ q => False.elim q⟩
    intro ρ M2 σ F2 H2 q W2 s2 _
    exact sat _ M2 .non F2 H2 q W2 s2 .non
  have ran := G0 _ F' H (L2.start N vs) _ W (paired_start hv) satS [] s1 (I.wish _)
  have fin : ∀ {s' : Shared} {σ' : L2.St} {H' : Hp} {v : V} {u : Value}, Inv (bodyX P w K mg base N qual st f cdv A outer s H) [] σ' H' s' → RelV v u → Q v H' → CE outer P w H s Q u s' := by
    intro s' σ' H' v u J rv q
    exact ⟨v, H', J.os, J.bare, J.base, J.hok, rv, q⟩
  refine wpAny_mono ran (fun fl s' hs => ?_) fun e s' hs => False.elim hs
  match fl, hs with
  | .ret u, hs =>
    obtain ⟨v, σ', H', J, rv, q⟩ := hs
    exact fin J rv q
  | .next, hs =>
    obtain ⟨σ', H', J, q⟩ := hs
    exact fin (v := V.non) (u := Value.none) J rfl q
  | .brk, hs =>
    obtain ⟨_, _, _, q⟩ := hs
    exact False.elim q
  | .cont, hs =>
    obtain ⟨_, _, _, q⟩ := hs
    exact False.elim q
end
end G

namespace G
open PySem PySem.Spec PyProof.Rows L2
section
variable {X : Cx} {ρ : List SD} {M : Mem} {Q : Kn} {QT : Bool → Mem → Prop} {QN : List SD → Mem → Prop} {D : GD} {pos : Pos} {a b c e tg it : Expr} {es ts : List Expr} {st : Stmt} {sts body : List Stmt}

/-! ### blocks, small statements -/
theorem bnil (q : D.nx ρ M) : GB X ρ M [] D := .mk fun B F H σ D' W S s => wB_of pss_nil (s.nx _ _ _ F H q W (Same.refl F) S)
theorem bcons (h : GS X ρ M st { D with nx := fun ρ1 M1 => GB X ρ1 M1 sts D }) : GB X ρ M (st :: sts) D := .mk fun B F H σ D' W S s =>
  wB_of (pss_cons pS pB) (h B F H σ _ W S ⟨fun ρ1 M1 σ1 F1 H1 q W1 s1 S1 => (show GB X ρ1 M1 sts D from q) B F1 H1 σ1 D' W1 S1 (s.mono s1), s.rt, s.bk, s.ct⟩)
theorem bone (h : GS X ρ M st D) : GB X ρ M [st] D := .mk fun B F H σ D' W S s => wB_of (pss_one pS) (h B F H σ D' W S s)
theorem GB.mono {D2 : GD} (h : GB X ρ M sts D2) (h1 : ∀ ρ' M', D2.nx ρ' M' → D.nx ρ' M') (h2 : ∀ r M', D2.rt r M' → D.rt r M') (h3 : ∀ ρ' M', D2.bk ρ' M' → D.bk ρ' M') (h4 : ∀ ρ' M', D2.ct ρ' M' → D.ct ρ' M') : GB X ρ M sts D := .mk fun B F H σ D' W S s =>
  h B F H σ D' W S ⟨fun ρ1 M1 σ1 F1 H1 q => s.nx ρ1 M1 σ1 F1 H1 (h1 _ _ q), fun ρ1 M1 σ1 F1 H1 q => s.rt ρ1 M1 σ1 F1 H1 (h2 _ _ q), fun ρ1 M1 σ1 F1 H1 q => s.bk ρ1 M1 σ1 F1 H1 (h3 _ _ q), fun ρ1 M1 σ1 F1 H1 q => s.ct ρ1 M1 σ1 F1 H1 (h4 _ _ q)⟩
theorem spass (q : D.nx ρ M) : GS X ρ M (.Pass pos) D := .mk fun B F H σ D' W S s => wS_of ps_pass (s.nx _ _ _ F H q W (Same.refl F) S)
theorem sbreak (q : D.bk ρ M) : GS X ρ M (.Break pos) D := .mk fun B F H σ D' W S s => wS_of ps_break (s.bk _ _ _ F H q W (Same.refl F) S)
theorem scont (q : D.ct ρ M) : GS X ρ M (.Continue pos) D := .mk fun B F H σ D' W S s => wS_of ps_continue (s.ct _ _ _ F H q W (Same.refl F) S)
theorem sexpr (h : GE X ρ M e fun _ M1 => D.nx ρ M1) (hs : swapsWith e none pos.line X.env = pure false := by rfl) : GS X ρ M (.Expr e pos) D := .mk fun B F H σ D' W S s =>
  wS_of (ps_expr pE hs) (h B F H σ _ W S fun r M1 v F1 H1 q W1 s1 _ => s.nx _ _ _ F1 H1 q W1 s1 (pMono s1 S))
theorem sret (h : GE X ρ M e D.rt) : GS X ρ M (.Return (some e) pos) D := .mk fun B F H σ D' W S s => wS_of (ps_ret pE) (h B F H σ _ W S s.rt)
theorem sretN (q : D.rt (.pu .none) M) : GS X ρ M (.Return none pos) D := .mk fun B F H σ D' W S s => wS_of ps_retN (s.rt _ _ _ F H q W (Same.refl F) .non)
theorem sif {t u : List Stmt} (h : GT X ρ M c fun k M1 => if k = true then GB X ρ M1 t D else GB X ρ M1 u D) : GS X ρ M (.If c t u pos) D := .mk fun B F H σ D' W S s => by
  refine wS_of (ps_if pT pB pB) (h B F H σ _ W S fun k M1 F1 H1 hx W1 s1 => ?_)
  cases k with
  | true => exact iteT ((show GB X ρ M1 t D from hx) B F1 H1 σ D' W1 (pMono s1 S) (s.mono s1))
  | false => exact iteF ((show GB X ρ M1 u D from hx) B F1 H1 σ D' W1 (pMono s1 S) (s.mono s1))

/-! ### targets -/
theorem tgname (i : Nat) {x : Str} {r : SD} (q : QN (ρ.set i r) M) (hN : X.N.Nodup) (hi : X.N[i]? = some x := by rfl) (hx : Loc X.env.scope x := by first | exact Or.inl rfl | exact Or.inr rfl) (hf : X.fn x = true ∨ X.env.scope.names.lookup x = some .local := by first | exact .inl rfl | exact .inr rfl | assumption) :
    GG X ρ M (.Name x pos) r QN := .mk fun B F H σ v Q' W S vr s => wG_of (pg_name hN hi hx hf) (s _ _ _ F H q W (Same.refl F) (pset vr i S))
theorem tgsnil (q : QN ρ M) : GGs X ρ M [] [] QN := .mk fun B F H σ vs Q' W S vr s => wGs_of pgs_nil ⟨by cases vr; rfl, s _ _ _ F H q W (Same.refl F) S⟩
theorem tgscons {r : SD} {rs : List SD} (h : GG X ρ M e r fun ρ1 M1 => GGs X ρ1 M1 es rs QN) (hs : (assignEach (e :: es) X.env).map (·.2) = assign e X.env :: (assignEach es X.env).map (·.2) := by rfl) : GGs X ρ M (e :: es) (r :: rs) QN := .mk fun B F H σ vs Q' W S vr s => by
  cases vr with
  | cons v1 v2 =>
    refine wGs_of (pgs_cons pG pGs hs) ⟨_, _, rfl, h B F H σ _ _ W S v1 fun ρ1 M1 σ1 F1 H1 q W1 s1 S1 => ?_⟩
    exact (show GGs X ρ1 M1 es rs QN from q) B F1 H1 σ1 _ Q' W1 S1 (vMono s1 v2) (s.mono s1)
theorem tgtup {k : Nat} {ds : List PyData} {n : Nat} (hc : X.calm = true) (hl : ds.length = n) (h : GGs X ρ M es (ds.map .pu) QN) (hn : (assignEach es X.env).length = n := by rfl) (hst : (assignEach es X.env).findIdx? (·.1) = none := by rfl) : GG X ρ M (.Tuple es k pos) (.pu (.tuple ds)) QN := .mk fun B F H σ v Q' W S vr s => by
  have vr : Dt F v (.tuple ds) := vr
  cases vr with
  | tup h1 h2 => exact wG_of (pg_tup hc pGs hn hst) ⟨_, _, rfl, .of (W.fh _ _ h1), by rw [h2.length, hl], h B F H σ _ Q' W S (pair_pu h2) s⟩
/-- o[i] = .. of a list that may change -/
theorem tgsub {r : SD} (h : GE X ρ M a fun x M1 => GE X ρ M1 b fun y M2 => ∃ l i j xs Ma Mb, x = .rf (.ref l) ∧ y = .pu (.int i) ∧ M2 = Ma ++ (l, .lst xs) :: Mb ∧ ixN xs.length i = some j ∧ QN ρ (Ma ++ (l, .lst (xs.set j r)) :: Mb))
    (ha : ∀ v, assign (.Subscript a b pos) X.env v = (do
      let ov ← holding [v] (eval a X.env)
      let iv ← holding [v, ov] (eval b X.env)
      standAt pos
      holding [v, ov, iv] (setItem ov iv v)
      release [v, ov, iv] []) := by intro _; rfl) : GG X ρ M (.Subscript a b pos) r QN := .mk fun B F H σ v Q' W S vr s => by
  refine wG_of (pg_sub pE pE set_list ha) (h B F H σ _ W S fun x M1 v1 F1 H1 hx W1 s1 vx => ?_)
  refine hx B F1 H1 σ _ W1 (pMono s1 S) fun y M2 w F2 H2 hy W2 s2 wy => ?_
  obtain ⟨l, i, j, xs, Ma, Mb, rfl, rfl, rfl, hij, q⟩ := hy
  have wy : Dt F2 w (.int i) := wy
  cases wy
  have vx : v1 = .ref l := vx
  subst vx
  obtain ⟨f1, vs, f2, f3⟩ := W2.mem (l, .lst xs) (by simp)
  have hp : (Ma ++ (l, MO.lst xs) :: Mb).Perm ((l, MO.lst xs) :: (Ma ++ Mb)) := List.perm_middle
  have fs : ∀ {vs : List V} {xs : List SD} (j : Nat), Paired (VOk F2) vs xs → Paired (VOk F2) (vs.set j v) (xs.set j r) := by
    intro vs xs j h
    induction h generalizing j with
    | nil => exact .nil
    | cons x y ih =>
      cases j with
      | zero => exact .cons (vr.mono (s1.trans s2)) y
      | succ j => exact .cons x (ih j)
  have W3 := (W2.perm hp).write (ys := xs.set j r) (ws := vs.set j v) (fs j f3)
  refine ⟨l, vs, i, j, rfl, rfl, f2, by rw [Paired.length f3]; exact hij, ?_⟩
  exact s _ _ _ F2 _ q (W3.perm List.perm_middle.symm) (s1.trans s2) (pMono (s1.trans s2) S)
/-- target = value -/
theorem sasg (h : GE X ρ M e fun r M1 => GG X ρ M1 tg r D.nx) (hs : swapsWithSole [tg] e pos.line X.env = pure false := by rfl) (hw : swappedStores [tg] e X.env = pure none := by rfl) (h1 : (assignEach [tg] X.env).map (·.2) = [assign tg X.env] := by rfl) : GS X ρ M (.Assign [tg] e pos) D := .mk fun B F H σ D' W S s =>
  wS_of (ps_asg pE pG hs hw h1) (h B F H σ _ W S fun r M1 v F1 H1 q W1 s1 vv => (show GG X ρ M1 tg r D.nx from q) B F1 H1 σ v _ W1 (pMono s1 S) vv (s.nx.mono s1))
/-- name = value -/
theorem sset (i : Nat) {x : Str} {pos' : Pos} (hN : X.N.Nodup) (h : GE X ρ M e fun r M1 => D.nx (ρ.set i r) M1) (hi : X.N[i]? = some x := by rfl) (hx : Loc X.env.scope x := by first | exact Or.inl rfl | exact Or.inr rfl) (hs : swapsWith e (some (.Name x pos')) pos.line X.env = pure false := by rfl) (hf : X.fn x = true ∨ X.env.scope.names.lookup x = some .local := by first | exact .inl rfl | exact .inr rfl | assumption) :
    GS X ρ M (.Assign [.Name x pos'] e pos) D := .mk fun B F H σ D' W S s =>
  wS_of (ps_set hN hi hx pE hs hf) (h B F H σ _ W S fun r M1 v F1 H1 q W1 s1 vv => s.nx _ _ _ F1 H1 q W1 s1 (pset vv i (pMono s1 S)))
/-- name += e of ints -/
theorem saug (i : Nat) {x : Str} {pos' : Pos} {n : Int} (hN : X.N.Nodup) (hr : ρ[i]? = some (.pu (.int n))) (h : GE X ρ M e fun r M1 => ∃ j, r = .pu (.int j) ∧ D.nx (ρ.set i (.pu (.int (n + j)))) M1) (hi : X.N[i]? = some x := by rfl) (hx : Loc X.env.scope x := by first | exact Or.inl rfl | exact Or.inr rfl) (hf : X.fn x = true ∨ X.env.scope.names.lookup x = some .local := by first | exact .inl rfl | exact .inr rfl | assumption) :
    GS X ρ M (.AugAssign (.Name x pos') .Add e pos) D := .mk fun B F H σ D' W S s => by
  obtain ⟨o, e1, e2⟩ := pget S hr
  obtain ⟨v, e3, e4⟩ := e2.isV rfl
  subst e3
  have e4 : Dt F v (.int n) := e4
  cases e4
  refine wS_of (ps_aug hN hi hx pE ip_add hf) ⟨_, e1, h B F H σ _ W S fun r M1 v F1 H1 q W1 s1 vv => ?_⟩
  obtain ⟨j, rfl, q⟩ := q
  have vv : Dt F1 v (.int j) := vv
  cases vv
  exact ⟨n, j, rfl, rfl, s.nx _ _ _ F1 H1 q W1 s1 (pset (show SOk F1 (some (V.int _)) (.pu (.int _)) from Dt.int _) i (pMono s1 S))⟩
theorem saugs (i : Nat) {x : Str} {pos' : Pos} {n : Int} (hN : X.N.Nodup) (hr : ρ[i]? = some (.pu (.int n))) (h : GE X ρ M e fun r M1 => ∃ j, r = .pu (.int j) ∧ D.nx (ρ.set i (.pu (.int (n - j)))) M1) (hi : X.N[i]? = some x := by rfl) (hx : Loc X.env.scope x := by first | exact Or.inl rfl | exact Or.inr rfl) (hf : X.fn x = true ∨ X.env.scope.names.lookup x = some .local := by first | exact .inl rfl | exact .inr rfl | assumption) :
    GS X ρ M (.AugAssign (.Name x pos') .Sub e pos) D := .mk fun B F H σ D' W S s => by
  obtain ⟨o, e1, e2⟩ := pget S hr
  obtain ⟨v, e3, e4⟩ := e2.isV rfl
  subst e3
  have e4 : Dt F v (.int n) := e4
  cases e4
  refine wS_of (ps_aug hN hi hx pE ip_sub hf) ⟨_, e1, h B F H σ _ W S fun r M1 v F1 H1 q W1 s1 vv => ?_⟩
  obtain ⟨j, rfl, q⟩ := q
  have vv : Dt F1 v (.int j) := vv
  cases vv
  exact ⟨n, j, rfl, rfl, s.nx _ _ _ F1 H1 q W1 s1 (pset (show SOk F1 (some (V.int _)) (.pu (.int _)) from Dt.int _) i (pMono s1 S))⟩

/-! ### methods of lists that may change -/
/-- xs.append(e) -/
theorem gapp {o : Expr} {apos cpos : Pos} (h : GE X ρ M o fun x M1 => ∃ l xs0, x = .rf (.ref l) ∧ (l, MO.lst xs0) ∈ M1 ∧ GE X ρ M1 e fun y M2 => ∃ xs Ma Mb, M2 = Ma ++ (l, .lst xs) :: Mb ∧ xs.length < 100000 ∧ Q (.pu .none) (Ma ++ (l, .lst (xs ++ [y])) :: Mb))
    (hbase : attributeBase o "append" X.env (eval o X.env) = eval o X.env := by rfl)
    (hfew : ((backTo cpos (starEach [e] X.env)).all (fun x => !x.1) && (backToKw cpos (keywordEach [] X.env)).all (fun x => x.1.isSome)
      && decide (([e] : List Expr).length + ([] : List Keyword).length + (if ([] : List Keyword).isEmpty then 0 else 1) < 30)) = true := by rfl)
    (hline : (apos.endLine == cpos.line) = true := by rfl) (hs : starEach [e] X.env = [(false, eval e X.env)] := by rfl) (hplain : (backTo cpos (starEach [] X.env)).any (·.1) = false := by rfl) :
    GE X ρ M (.Call (.Attribute o "append" apos) [e] [] cpos) Q := .mk fun B F H σ Q' W S s => by
  refine wE_of (pe_bm PySem.F.plainAttrs_list PySem.F.slot_list_append PySem.F.type_list_append mt_append pE pA hbase hfew hline hs hplain) (h B F H σ _ W S fun x M1 v F1 H1 hx W1 s1 vx => ?_)
  obtain ⟨l, xs0, rfl, hm, hx⟩ := hx
  have vx : v = .ref l := vx
  subst vx
  obtain ⟨f1, vs0, f2, f3⟩ := W1.mem _ hm
  refine ⟨.inl ⟨rfl, _, .of f2⟩, ?_⟩
  refine wA_of (pa_cons pE pa_nil hs) (hx B F1 H1 σ _ W1 (pMono s1 S) fun y M2 w F2 H2 hy W2 s2 wy => ?_)
  obtain ⟨xs, Ma, Mb, rfl, hl, q⟩ := hy
  obtain ⟨g1, vs, g2, g3⟩ := W2.mem (l, .lst xs) (by simp)
  have W3 := (W2.perm List.perm_middle).write (ys := xs ++ [y]) (ws := vs ++ [w]) (paired_app g3 (.cons wy .nil))
  refine ⟨l, vs, w, rfl, rfl, g2, by rw [Paired.length g3]; exact Nat.lt_of_lt_of_le hl (by decide), ?_⟩
  exact s _ _ _ F2 _ q (W3.perm List.perm_middle.symm) (s1.trans s2) .non
theorem paired_erase {F : Hp} : ∀ {vs : List V} {xs : List SD} (k : Nat), Paired (VOk F) vs xs → Paired (VOk F) (vs.eraseIdx k) (xs.eraseIdx k)
  | _, _, _, .nil => .nil
  | _, _, 0, .cons _ b => b
  | _, _, k + 1, .cons a b => .cons a (paired_erase k b)
/-- xs.pop(i), 0 ≤ i -/
theorem gpop {o : Expr} {apos cpos : Pos} (h : GE X ρ M o fun x M1 => ∃ l xs0, x = .rf (.ref l) ∧ (l, MO.lst xs0) ∈ M1 ∧ GE X ρ M1 e fun y M2 => ∃ (k : Nat) (r : SD) (xs : List SD) (Ma Mb : Mem), y = .pu (.int (k : Int)) ∧ M2 = Ma ++ (l, .lst xs) :: Mb ∧ k < 100000 ∧ xs[k]? = some r ∧ Q r (Ma ++ (l, .lst (xs.eraseIdx k)) :: Mb))
    (hbase : attributeBase o "pop" X.env (eval o X.env) = eval o X.env := by rfl)
    (hfew : ((backTo cpos (starEach [e] X.env)).all (fun x => !x.1) && (backToKw cpos (keywordEach [] X.env)).all (fun x => x.1.isSome)
      && decide (([e] : List Expr).length + ([] : List Keyword).length + (if ([] : List Keyword).isEmpty then 0 else 1) < 30)) = true := by rfl)
    (hline : (apos.endLine == cpos.line) = true := by rfl) (hs : starEach [e] X.env = [(false, eval e X.env)] := by rfl) (hplain : (backTo cpos (starEach [] X.env)).any (·.1) = false := by rfl) :
    GE X ρ M (.Call (.Attribute o "pop" apos) [e] [] cpos) Q := .mk fun B F H σ Q' W S s => by
  refine wE_of (pe_bm PySem.F.plainAttrs_list PySem.F.slot_list_pop PySem.F.type_list_pop mt_popAt pE pA hbase hfew hline hs hplain) (h B F H σ _ W S fun x M1 v F1 H1 hx W1 s1 vx => ?_)
  obtain ⟨l, xs0, rfl, hm, hx⟩ := hx
  have vx : v = .ref l := vx
  subst vx
  obtain ⟨f1, vs0, f2, f3⟩ := W1.mem _ hm
  refine ⟨.inl ⟨rfl, _, .of f2⟩, ?_⟩
  refine wA_of (pa_cons pE pa_nil hs) (hx B F1 H1 σ _ W1 (pMono s1 S) fun y M2 w F2 H2 hy W2 s2 wy => ?_)
  obtain ⟨k, r, xs, Ma, Mb, rfl, rfl, hk, hr, q⟩ := hy
  have wy : Dt F2 w (.int (k : Int)) := wy
  cases wy
  obtain ⟨g1, vs, g2, g3⟩ := W2.mem (l, .lst xs) (by simp)
  obtain ⟨u, u1, u2⟩ := paired_at g3 hr
  have W3 := (W2.perm List.perm_middle).write (ys := xs.eraseIdx k) (ws := vs.eraseIdx k) (paired_erase k g3)
  have hkl : k < vs.length := (List.getElem?_eq_some_iff.mp u1).1
  have hix : seqIndex? (k : Int) vs.length = some k := (ixN_seq (n := vs.length) (i := (k : Int)) (j := k) (by
    unfold ixN
    rw [if_pos (by omega), if_pos (by omega)]
    simp)).1
  refine ⟨l, vs, (k : Int), k, u, rfl, rfl, g2, by omega, by omega, hix, u1, ?_⟩
  exact s _ _ _ F2 _ q (W3.perm List.perm_middle.symm) (s1.trans s2) u2

/-! ### iterators -/
theorem ilist (h : GE X ρ M e fun x M1 => ∃ ds R, x = .pu (.list ds) ∧ R = SD.un ∧ ∀ QI : Nat → (Nat → SD) → Mem → Prop, True) : True := trivial
variable {QI : Nat → (Nat → SD) → Mem → Prop}
def nth (ds : List PyData) (i : Nat) : SD := match ds[i]? with
  | some d => .pu d
  | none => .un
theorem nth_get {ds : List PyData} {i : Nat} {d : PyData} (h : ds[i]? = some d) : nth ds i = .pu d := by
  unfold nth
  rw [h]
theorem git_list {K : PySem.W.Frag} {F : Hp} {a : Addr} {vs : List V} {ds : List PyData} (h : F a = some (.lst vs)) (hd : DtA F vs ds) : GIt F (Itl K a) ds.length (nth ds) where
  go := fun i F' H s1 s2 hi => by
    have hv : i < vs.length := by
      rw [hd.length]
      exact hi
    exact ⟨vs, vs[i], .of (s2 _ _ (s1 _ _ h)), List.getElem?_eq_getElem hv⟩
  stop := fun F' H s1 s2 => ⟨vs, .of (s2 _ _ (s1 _ _ h)), by rw [hd.length]; exact Nat.le_refl _⟩
  yld := fun i B F' H M x H' hi s1 W y => by
    obtain ⟨rfl, y⟩ := y
    have g := y vs (.of (W.fh _ _ (s1 _ _ h)))
    have hi2 : ds[i]? = some ds[i] := List.getElem?_eq_getElem hi
    obtain ⟨v, e1, e2⟩ := hd.get hi2
    have e : v = x := Option.some.inj (e1.symm.trans g)
    subst e
    refine ⟨F', Same.refl F', W, ?_⟩
    rw [nth_get hi2]
    exact Dt.mono s1 e2
theorem iglist (h : GE X ρ M e fun x M1 => ∃ ds, x = .pu (.list ds) ∧ QI ds.length (nth ds) M1) : GI X ρ M tg e QI := .mk fun B F H σ R' W S s => by
  refine wI_of (pi_list pE) (h B F H σ _ W S fun x M1 v F1 H1 hx W1 s1 vx => ?_)
  obtain ⟨ds, rfl, q⟩ := hx
  have vx : Dt F1 v (.list ds) := vx
  cases vx with
  | lst h1 h2 => exact ⟨_, rfl, ⟨_, .of (W1.fh _ _ h1)⟩, s _ _ M1 _ F1 H1 q W1 s1 (git_list h1 h2)⟩
theorem git_tup {K : PySem.W.Frag} {F : Hp} {a : Addr} {vs : List V} {ds : List PyData} (h : F a = some (.tup vs)) (hd : DtA F vs ds) : GIt F (Itt K a) ds.length (nth ds) where
  go := fun i F' H s1 s2 hi => by
    have hv : i < vs.length := by
      rw [hd.length]
      exact hi
    exact ⟨vs, vs[i], .of (s2 _ _ (s1 _ _ h)), List.getElem?_eq_getElem hv⟩
  stop := fun F' H s1 s2 => ⟨vs, .of (s2 _ _ (s1 _ _ h)), by rw [hd.length]; exact Nat.le_refl _⟩
  yld := fun i B F' H M x H' hi s1 W y => by
    obtain ⟨rfl, y⟩ := y
    have g := y vs (.of (W.fh _ _ (s1 _ _ h)))
    have hi2 : ds[i]? = some ds[i] := List.getElem?_eq_getElem hi
    obtain ⟨v, e1, e2⟩ := hd.get hi2
    have e : v = x := Option.some.inj (e1.symm.trans g)
    subst e
    refine ⟨F', Same.refl F', W, ?_⟩
    rw [nth_get hi2]
    exact Dt.mono s1 e2
theorem igtup (h : GE X ρ M e fun x M1 => ∃ ds, x = .pu (.tuple ds) ∧ QI ds.length (nth ds) M1) : GI X ρ M tg e QI := .mk fun B F H σ R' W S s => by
  refine wI_of (pi_tup pE) (h B F H σ _ W S fun x M1 v F1 H1 hx W1 s1 vx => ?_)
  obtain ⟨ds, rfl, q⟩ := hx
  have vx : Dt F1 v (.tuple ds) := vx
  cases vx with
  | tup h1 h2 => exact ⟨_, rfl, ⟨_, .of (W1.fh _ _ h1)⟩, s _ _ M1 _ F1 H1 q W1 s1 (git_tup h1 h2)⟩
theorem git_rng {F : Hp} {lo : Int} {n : Nat} : GIt F (Itr lo n) n (fun i => .pu (.int (lo + (i : Int)))) where
  go := fun i F' H s1 s2 hi => hi
  stop := fun F' H s1 s2 => Nat.le_refl n
  yld := fun i B F' H M x H' hi s1 W y => by
    obtain ⟨rfl, rfl⟩ := y
    exact ⟨F', Same.refl F', W, .int _⟩
theorem git_rngC {F : Hp} {lo c : Int} {n : Nat} : GIt F (Itc lo c n) n (fun i => .pu (.int (lo + (i : Int) * c))) where
  go := fun i F' H s1 s2 hi => hi
  stop := fun F' H s1 s2 => Nat.le_refl n
  yld := fun i B F' H M x H' hi s1 W y => by
    obtain ⟨rfl, rfl⟩ := y
    exact ⟨F', Same.refl F', W, .int _⟩
/-- range(n) -/
theorem igr1 {p : Pos} (hm : X.mg "range" = none) (h : GE X ρ M a fun x M1 => ∃ n, x = .pu (.int n) ∧ n < 2 ^ 62 ∧ -(2 ^ 62) ≤ n ∧ QI n.toNat (fun i => .pu (.int (i : Int))) M1) (hg : Gl X "range" := by rfl) (hs : starEach [a] X.env = [(false, eval a X.env)] := by rfl) : GI X ρ M tg (.Call (.Name "range" p) [a] [] pos) QI := .mk fun B F H σ R' W S s => by
  refine wI_of (pi_range1 hg hm pA hs) (wA_of (pa_cons pE pa_nil hs) (h B F H σ _ W S fun x M1 v F1 H1 hx W1 s1 vx => ?_))
  obtain ⟨n, rfl, h1, h2, q⟩ := hx
  have vx : Dt F1 v (.int n) := vx
  cases vx
  refine ⟨n, rfl, by omega, by omega, s _ _ M1 _ F1 H1 q W1 s1 ?_⟩
  have z := git_rng (F := F1) (lo := 0) (n := n.toNat)
  have e : (fun i : Nat => SD.pu (.int ((0 : Int) + (i : Int)))) = fun i : Nat => SD.pu (.int (i : Int)) := by
    funext i
    rw [Int.zero_add]
  rw [e] at z
  exact z
/-- range(lo, n) -/
theorem igr2 {p : Pos} (hm : X.mg "range" = none) (h : GE X ρ M a fun x M1 => ∃ lo, x = .pu (.int lo) ∧ GE X ρ M1 b fun y M2 => ∃ n, y = .pu (.int n) ∧ (lo < 2 ^ 62 ∧ -(2 ^ 62) ≤ lo ∧ n < 2 ^ 62 ∧ -(2 ^ 62) ≤ n) ∧ QI (n - lo).toNat (fun i => .pu (.int (lo + (i : Int)))) M2)
    (hg : Gl X "range" := by rfl) (hs : starEach [a, b] X.env = [(false, eval a X.env), (false, eval b X.env)] := by rfl) (hs2 : starEach [b] X.env = [(false, eval b X.env)] := by rfl) : GI X ρ M tg (.Call (.Name "range" p) [a, b] [] pos) QI := .mk fun B F H σ R' W S s => by
  refine wI_of (pi_range2 hg hm pA hs hs2) (wA_of (pa_cons pE (pa_cons pE pa_nil hs2) (by rw [hs, hs2])) (h B F H σ _ W S fun x M1 v F1 H1 hx W1 s1 vx => ?_))
  obtain ⟨lo, rfl, hx⟩ := hx
  have vx : Dt F1 v (.int lo) := vx
  cases vx
  refine hx B F1 H1 σ _ W1 (pMono s1 S) fun y M2 w F2 H2 hy W2 s2 wy => ?_
  obtain ⟨n, rfl, hb, q⟩ := hy
  have wy : Dt F2 w (.int n) := wy
  cases wy
  exact ⟨lo, n, rfl, ⟨by omega, by omega, by omega, by omega⟩, s _ _ M2 _ F2 H2 q W2 (s1.trans s2) git_rng⟩
/-- a pair that is handed out anew: enumerate, zip -/
def enu (ds : List PyData) (i : Nat) : SD := match ds[i]? with | some d => .pu (.tuple [.int (i : Int), d]) | none => .un
theorem enu_at {ds : List PyData} {i : Nat} (h : i < ds.length) : enu ds i = .pu (.tuple [.int (i : Int), ds[i]]) := by
  unfold enu
  rw [List.getElem?_eq_getElem h]
def zpp (ds es : List PyData) (i : Nat) : SD := match ds[i]?, es[i]? with | some d, some d' => .pu (.tuple [d, d']) | _, _ => .un
theorem zpp_at {ds es : List PyData} {i : Nat} (h : i < ds.length) (h' : i < es.length) : zpp ds es i = .pu (.tuple [ds[i], es[i]]) := by
  unfold zpp
  rw [List.getElem?_eq_getElem h, List.getElem?_eq_getElem h']
theorem git_enum {K : PySem.W.Frag} {F : Hp} {a : Addr} {vs : List V} {ds : List PyData} (h : F a = some (.lst vs)) (hd : DtA F vs ds) : GIt F (Ite K a) ds.length (enu ds) where
  go := fun i F' H s1 s2 hi => (walk_enum (K := K) (a := a) (xs := vs)).goes i H (by rw [hd.length]; exact hi) (.of (s2 _ _ (s1 _ _ h)))
  stop := fun F' H s1 s2 => by
    have z := (walk_enum (K := K) (a := a) (xs := vs)).stops H (.of (s2 _ _ (s1 _ _ h)))
    rw [hd.length] at z
    exact z
  yld := fun i B F' H M x H' hi s1 W y => by
    obtain ⟨T, u, v, rfl, hT, rfl, e1, e2⟩ := (walk_enum (K := K) (a := a) (xs := vs)).yields i H x H' (by rw [hd.length]; exact hi) (.of (W.fh _ _ (s1 _ _ h))) y
    have hi2 : ds[i]? = some ds[i] := List.getElem?_eq_getElem hi
    obtain ⟨v', g1, g2⟩ := hd.get hi2
    have e : v = v' := Option.some.inj (e2.symm.trans g1)
    subst e
    have e : V.int (i : Nat) = u := Option.some.inj e1
    subst e
    obtain ⟨W2, s2⟩ := W.froz (o := .tup [.int (i : Nat), v]) hT
    refine ⟨_, s2, W2, ?_⟩
    rw [enu_at hi]
    exact Dt.tup upd_same (.cons (.int _) (.cons (Dt.mono (s1.trans s2) g2) .nil))
theorem igenum {p tpos : Pos} {elts : List Expr} {kk : Nat} (hm : X.mg "enumerate" = none) (h : GE X ρ M e fun x M1 => ∃ ds, x = .pu (.list ds) ∧ QI ds.length (enu ds) M1) (hg : Gl X "enumerate" := by rfl) (hs : starEach [e] X.env = [(false, eval e X.env)] := by rfl) :
    GI X ρ M (.Tuple elts kk tpos) (.Call (.Name "enumerate" p) [e] [] pos) QI := .mk fun B F H σ R' W S s => by
  refine wI_of (pi_enum hg hm pA hs) (wA_of (pa_cons pE pa_nil hs) (h B F H σ _ W S fun x M1 v F1 H1 hx W1 s1 vx => ?_))
  obtain ⟨ds, rfl, q⟩ := hx
  have vx : Dt F1 v (.list ds) := vx
  cases vx with
  | lst h1 h2 => exact ⟨_, _, rfl, .of (W1.fh _ _ h1), s _ _ M1 _ F1 H1 q W1 s1 (git_enum h1 h2)⟩
theorem git_zip {K : PySem.W.Frag} {F : Hp} {a b : Addr} {vs ws : List V} {ds es : List PyData} (h : F a = some (.lst vs)) (hd : DtA F vs ds) (h' : F b = some (.lst ws)) (hd' : DtA F ws es) :
    GIt F (Itz K a b) (min ds.length es.length) (zpp ds es) where
  go := fun i F' H s1 s2 hi => (walk_zip (K := K) (a := a) (b := b) (xs := vs) (ys := ws) (n := min vs.length ws.length) rfl).goes i H (by rw [hd.length, hd'.length]; exact hi) ⟨.of (s2 _ _ (s1 _ _ h)), .of (s2 _ _ (s1 _ _ h'))⟩
  stop := fun F' H s1 s2 => by
    have z := (walk_zip (K := K) (a := a) (b := b) (xs := vs) (ys := ws) (n := min vs.length ws.length) rfl).stops H ⟨.of (s2 _ _ (s1 _ _ h)), .of (s2 _ _ (s1 _ _ h'))⟩
    rw [hd.length, hd'.length] at z
    exact z
  yld := fun i B F' H M x H' hi s1 W y => by
    obtain ⟨T, u, v, rfl, hT, rfl, e1, e2⟩ := (walk_zip (K := K) (a := a) (b := b) (xs := vs) (ys := ws) (n := min vs.length ws.length) rfl).yields i H x H' (by rw [hd.length, hd'.length]; exact hi) ⟨.of (W.fh _ _ (s1 _ _ h)), .of (W.fh _ _ (s1 _ _ h'))⟩ y
    have hi1 : ds[i]? = some (ds[i]'(by omega)) := List.getElem?_eq_getElem _
    have hi2 : es[i]? = some (es[i]'(by omega)) := List.getElem?_eq_getElem _
    obtain ⟨u', f1, f2⟩ := hd.get hi1
    obtain ⟨v', g1, g2⟩ := hd'.get hi2
    have e : u = u' := Option.some.inj (e1.symm.trans f1)
    subst e
    have e : v = v' := Option.some.inj (e2.symm.trans g1)
    subst e
    obtain ⟨W2, s2⟩ := W.froz (o := .tup [u, v]) hT
    refine ⟨_, s2, W2, ?_⟩
    rw [zpp_at (by omega) (by omega)]
    exact Dt.tup upd_same (.cons (Dt.mono (s1.trans s2) f2) (.cons (Dt.mono (s1.trans s2) g2) .nil))
theorem igzip {p tpos : Pos} {elts : List Expr} {kk : Nat} (hm : X.mg "zip" = none) (h : GE X ρ M a fun x M1 => ∃ ds, x = .pu (.list ds) ∧ GE X ρ M1 b fun y M2 => ∃ es, y = .pu (.list es) ∧ QI (min ds.length es.length) (zpp ds es) M2)
    (hg : Gl X "zip" := by rfl) (hs : starEach [a, b] X.env = (false, eval a X.env) :: starEach [b] X.env := by rfl) (hs2 : starEach [b] X.env = [(false, eval b X.env)] := by rfl) (hpl : (backTo pos (starEach [b] X.env)).any (·.1) = false := by rfl) :
    GI X ρ M (.Tuple elts kk tpos) (.Call (.Name "zip" p) [a, b] [] pos) QI := .mk fun B F H σ R' W S s => by
  refine wI_of (pi_zip hg hm pA hs hpl) (wA_of (pa_cons pE (pa_cons pE pa_nil hs2) hs) (h B F H σ _ W S fun x M1 v F1 H1 hx W1 s1 vx => ?_))
  obtain ⟨ds, rfl, hx⟩ := hx
  refine hx B F1 H1 σ _ W1 (pMono s1 S) fun y M2 w F2 H2 hy W2 s2 wy => ?_
  obtain ⟨es, rfl, q⟩ := hy
  have vx : Dt F2 v (.list ds) := vx.mono s2
  have wy : Dt F2 w (.list es) := wy
  cases vx with
  | lst h1 h2 =>
    cases wy with
    | lst g1 g2 => exact ⟨_, _, _, _, rfl, .of (W2.fh _ _ h1), .of (W2.fh _ _ g1), s _ _ M2 _ F2 H2 q W2 (s1.trans s2) (git_zip h1 h2 g1 g2)⟩

/-! ### for, while -/
theorem sfor (hp : PassesOwn (model X.prog X.w) X.A X.env X.xe) (hc : X.calm = true)
    (h : GI X ρ M tg it fun n item M1 => ∃ Pv : Nat → List SD → Mem → Prop, Pv 0 ρ M1 ∧ (∀ i ρ' M', i < n → Pv i ρ' M' → GG X ρ' M' tg (item i) fun ρ2 M2 => GB X ρ2 M2 body ⟨Pv (i + 1), D.rt, D.nx, Pv (i + 1)⟩) ∧ ∀ ρ' M', Pv n ρ' M' → D.nx ρ' M')
    (hs : ∀ x, foldedSetIterable it X.env x = pure x := by intro _; rfl) : GS X ρ M (.For tg it body [] pos) D := .mk fun B F H σ D' W S s => by
  refine wS_of (ps_for hp hc pI pG pB hs) (h B F H σ _ W S fun n item M1 J F1 H1 hx W1 s1 gi => ?_)
  obtain ⟨Pv, p0, turn, fin⟩ := hx
  refine ⟨fun i m σ' H' => i + m = n ∧ ∃ ρ' M' F', Pv i ρ' M' ∧ Wd B F' H' M' ∧ Same F1 F' ∧ Paired (SOk F') σ' ρ', ⟨n, Nat.zero_add n, ρ, M1, F1, p0, W1, Same.refl F1, pMono s1 S⟩, ?_⟩
  rintro i m σ' H' ⟨him, ρ', M', F', pv, W', s', S'⟩
  by_cases hi : i < n
  · refine .inr ⟨gi.go i F' H' s' W'.fh hi, fun σ2 H2 => ∃ ρ2 M2 F2, Pv (i + 1) ρ2 M2 ∧ Wd B F2 H2 M2 ∧ Same F1 F2 ∧ Paired (SOk F2) σ2 ρ2, fun σ2 H2 ⟨ρ2, M2, F2, q1, q2, q3, q4⟩ => ⟨m - 1, by omega, by omega, ρ2, M2, F2, q1, q2, q3, q4⟩, fun x H2 y => ?_⟩
    obtain ⟨F2, s2, W2, v2⟩ := gi.yld i B F' H' M' x H2 hi s' W' y
    refine turn i ρ' M' hi pv B F2 H2 σ' x _ W2 (pMono s2 S') v2 fun ρ3 M3 σ3 F3 H3 q W3 s3 S3 => ?_
    refine (show GB X ρ3 M3 body _ from q) B F3 H3 σ3 _ W3 S3 ⟨?_, ?_, ?_, ?_⟩
    · exact fun ρ4 M4 σ4 F4 H4 q W4 s4 S4 => ⟨ρ4, M4, F4, q, W4, ((s'.trans s2).trans s3).trans s4, S4⟩
    · exact s.rt.mono ((s1.trans s').trans (s2.trans s3))
    · exact s.nx.mono ((s1.trans s').trans (s2.trans s3))
    · exact fun ρ4 M4 σ4 F4 H4 q W4 s4 S4 => ⟨ρ4, M4, F4, q, W4, ((s'.trans s2).trans s3).trans s4, S4⟩
  · have e : i = n := by omega
    subst e
    exact .inl ⟨gi.stop F' H' s' W'.fh, s.nx ρ' M' σ' F' H' (fin ρ' M' pv) W' (s1.trans s') S'⟩
theorem swhile (hp : PassesOwn (model X.prog X.w) X.A X.env X.xe) (Wv : Nat → List SD → Mem → Prop) (m0 : Nat) (h0 : Wv m0 ρ M)
    (turn : ∀ m ρ' M', Wv m ρ' M' → GT X ρ' M' c fun k M1 => if k = true then GB X ρ' M1 body ⟨fun ρ2 M2 => ∃ m', m' < m ∧ Wv m' ρ2 M2, D.rt, D.nx, fun ρ2 M2 => ∃ m', m' < m ∧ Wv m' ρ2 M2⟩ else D.nx ρ' M1) : GS X ρ M (.While c body [] pos) D := .mk fun B F H σ D' W S s => by
  refine wS_of (ps_while hp pT pB) ⟨fun m σ' H' => ∃ ρ' M' F', Wv m ρ' M' ∧ Wd B F' H' M' ∧ Same F F' ∧ Paired (SOk F') σ' ρ', ⟨m0, ρ, M, F, h0, W, Same.refl F, S⟩, ?_⟩
  rintro m σ' H' ⟨ρ', M', F', wv, W', s', S'⟩
  refine turn m ρ' M' wv B F' H' σ' _ W' S' fun k M1 F1 H1 hx W1 s1 => ?_
  cases k with
  | true =>
    refine iteT ⟨fun σ2 H2 => ∃ m', m' < m ∧ ∃ ρ2 M2 F2, Wv m' ρ2 M2 ∧ Wd B F2 H2 M2 ∧ Same F F2 ∧ Paired (SOk F2) σ2 ρ2, fun σ2 H2 q => q, ?_⟩
    refine (show GB X ρ' M1 body _ from hx) B F1 H1 σ' _ W1 (pMono s1 S') ⟨?_, s.rt.mono (s'.trans s1), s.nx.mono (s'.trans s1), ?_⟩
    · exact fun ρ4 M4 σ4 F4 H4 ⟨m', hm, q⟩ W4 s4 S4 => ⟨m', hm, ρ4, M4, F4, q, W4, (s'.trans s1).trans s4, S4⟩
    · exact fun ρ4 M4 σ4 F4 H4 ⟨m', hm, q⟩ W4 s4 S4 => ⟨m', hm, ρ4, M4, F4, q, W4, (s'.trans s1).trans s4, S4⟩
  | false => exact iteF (s.nx ρ' M1 σ' F1 H1 hx W1 (s'.trans s1) (pMono s1 S'))
end
end G

namespace G
open PySem PySem.Spec PyProof.Rows L2
/-! ### comprehensions -/
/-- every block that a comprehension of X may run in -/
abbrev Blk (X : Cx) (scope : Scope) (Y : Cx) : Prop := ∃ (s : Shared) (H : Hp) (C : Addr) (cl : List (Str × Addr)) (fp : List Addr), Y = X.blk s H scope (compEnvC scope cl C X.env) fp
/-- the targets that are taken: a name, a pair of names -/
inductive Tg where
  | name (j : Nat)
  | pair (j k : Nat)
  | tri (j k m : Nat)
def Tg.g (K : PySem.W.Frag) : Tg → TG
  | .name j => gName j
  | .pair j k => gTup K 2 (gCons (gName j) (gCons (gName k) gNil))
  | .tri j k m => gTup K 3 (gCons (gName j) (gCons (gName k) (gCons (gName m) gNil)))
def Tg.ix : Tg → List Nat
  | .name j => [j]
  | .pair j k => [j, k]
  | .tri j k m => [j, k, m]
def Tg.put : Tg → List SD → SD → Option (List SD)
  | .name j, ρ, r => some (ρ.set j r)
  | .pair j k, ρ, .pu (.tuple [d, e]) => some ((ρ.set j (.pu d)).set k (.pu e))
  | .tri j k m, ρ, .pu (.tuple [d, e, f]) => some (((ρ.set j (.pu d)).set k (.pu e)).set m (.pu f))
  | _, _, _ => none
section
variable {X : Cx} {ρ : List SD} {M : Mem} {Q : Kn} {pos : Pos} {elt tg it tg1 it1 : Expr} {ifs ifs1 : List Expr} {scope : Scope} {own : List (Str × Nat)}
theorem wipe_at {σ : L2.St} : ∀ {vs : List Nat} {i : Nat}, i ∈ vs → (wipe σ vs)[i]? = σ[i]?.map fun _ => none
  | v :: vs, i, h => by
    unfold wipe
    by_cases e : v = i
    · subst e
      by_cases hl : v < (wipe σ vs).length
      · rw [List.getElem?_set_self hl]
        rw [wipe_length] at hl
        rw [List.getElem?_eq_getElem hl]
        rfl
      · have hl' : σ.length ≤ v := by rw [wipe_length] at hl; omega
        rw [List.getElem?_eq_none (by rw [List.length_set, wipe_length]; exact hl'), List.getElem?_eq_none hl']
        rfl
    · rw [List.getElem?_set_ne e]
      rcases List.mem_cons.mp h with z | z
      · exact absurd z.symm e
      · exact wipe_at z
theorem wipe_eq {σ σ' : L2.St} {vs : List Nat} (h : ∀ i, i ∉ vs → σ'[i]? = σ[i]?) (hl : σ'.length = σ.length) : wipe σ' vs = wipe σ vs := by
  apply List.ext_getElem?
  intro i
  by_cases hi : i ∈ vs
  · rw [wipe_at hi, wipe_at hi]
    by_cases hz : i < σ.length
    · rw [List.getElem?_eq_getElem hz, List.getElem?_eq_getElem (by rw [hl]; exact hz)]
      rfl
    · rw [List.getElem?_eq_none (Nat.le_of_not_lt hz), List.getElem?_eq_none (hl ▸ Nat.le_of_not_lt hz)]
  · rw [wipe_out hi, wipe_out hi]
    exact h i hi
theorem wipe_wipe {σ : L2.St} {vs : List Nat} : wipe (wipe σ vs) vs = wipe σ vs := wipe_eq (fun i hi => wipe_out hi) (wipe_length σ vs)
theorem put_pair {j k : Nat} {ρ ρ2 : List SD} {r : SD} (h : Tg.put (.pair j k) ρ r = some ρ2) : ∃ d e, r = .pu (.tuple [d, e]) ∧ (ρ.set j (.pu d)).set k (.pu e) = ρ2 := by
  cases r with
  | un => cases h
  | rf v => cases h
  | pv v d => cases h
  | tp vs => cases h
  | ob C ds => cases h
  | pu d =>
    cases d with
    | tuple ds =>
      match ds, h with
      | [d, e], h => exact ⟨d, e, rfl, Option.some.inj h⟩
      | [], h => cases h
      | [_], h => cases h
      | _ :: _ :: _ :: _, h => cases h
    | _ => cases h
theorem put_tri {j k m : Nat} {ρ ρ2 : List SD} {r : SD} (h : Tg.put (.tri j k m) ρ r = some ρ2) : ∃ d e f, r = .pu (.tuple [d, e, f]) ∧ ((ρ.set j (.pu d)).set k (.pu e)).set m (.pu f) = ρ2 := by
  cases r with
  | un => cases h
  | rf v => cases h
  | pv v d => cases h
  | tp vs => cases h
  | ob C ds => cases h
  | pu d =>
    cases d with
    | tuple ds =>
      match ds, h with
      | [d, e, f], h => exact ⟨d, e, f, rfl, Option.some.inj h⟩
      | [], h => cases h
      | [_], h => cases h
      | [_, _], h => cases h
      | _ :: _ :: _ :: _ :: _, h => cases h
    | _ => cases h
theorem tg_run {K : PySem.W.Frag} {F H : Hp} {σ : L2.St} {ρ ρ2 : List SD} {v : V} {r : SD} {t : Tg} {vs : List Nat} {Q : L2.St → Hp → Prop} (fh : Same F H) (S : Paired (SOk F) σ ρ) (hv : VOk F v r) (hp : t.put ρ r = some ρ2) (hi : ∀ j ∈ t.ix, j ∈ vs)
    (q : ∀ σ2, Paired (SOk F) σ2 ρ2 → wipe σ2 vs = wipe σ vs → Q σ2 H) : t.g K v σ H Q := by
  cases t with
  | name j =>
    have e : ρ.set j r = ρ2 := Option.some.inj hp
    subst e
    have hj : j ∈ vs := hi j List.mem_cons_self
    refine q _ (pset hv j S) (wipe_eq (fun i hn => ?_) List.length_set)
    rw [List.getElem?_set_ne]
    intro e
    exact hn (e ▸ hj)
  | pair j k =>
    obtain ⟨d, e', e1, e2⟩ := put_pair hp
    subst e1
    subst e2
    have hv : Dt F v (.tuple [d, e']) := hv
    cases hv with
    | tup t1 t2 =>
      cases t2 with
      | cons a b =>
        cases b with
        | cons b c =>
          cases c
          have hj : j ∈ vs := hi j List.mem_cons_self
          have hk : k ∈ vs := hi k (List.mem_cons_of_mem _ List.mem_cons_self)
          refine ⟨_, _, rfl, .of (fh _ _ t1), rfl, _, _, rfl, _, _, rfl, rfl, ?_⟩
          refine q _ (pset (show SOk F (some _) (.pu e') from b) k (pset (show SOk F (some _) (.pu d) from a) j S)) (wipe_eq (fun i hn => ?_) (by rw [List.length_set, List.length_set]))
          rw [List.getElem?_set_ne, List.getElem?_set_ne]
          · intro e
            exact hn (e ▸ hj)
          · intro e
            exact hn (e ▸ hk)
  | tri j k m =>
    obtain ⟨d, e', f', e1, e2⟩ := put_tri hp
    subst e1
    subst e2
    have hv : Dt F v (.tuple [d, e', f']) := hv
    cases hv with
    | tup t1 t2 =>
      cases t2 with
      | cons a b =>
        cases b with
        | cons b c =>
          cases c with
          | cons c d0 =>
            cases d0
            have hj : j ∈ vs := hi j List.mem_cons_self
            have hk : k ∈ vs := hi k (List.mem_cons_of_mem _ List.mem_cons_self)
            have hm : m ∈ vs := hi m (List.mem_cons_of_mem _ (List.mem_cons_of_mem _ List.mem_cons_self))
            refine ⟨_, _, rfl, .of (fh _ _ t1), rfl, _, _, rfl, _, _, rfl, _, _, rfl, rfl, ?_⟩
            refine q _ (pset (show SOk F (some _) (.pu f') from c) m (pset (show SOk F (some _) (.pu e') from b) k (pset (show SOk F (some _) (.pu d) from a) j S))) (wipe_eq (fun i hn => ?_) (by rw [List.length_set, List.length_set, List.length_set]))
            rw [List.getElem?_set_ne, List.getElem?_set_ne, List.getElem?_set_ne]
            · intro e
              exact hn (e ▸ hj)
            · intro e
              exact hn (e ▸ hk)
            · intro e
              exact hn (e ▸ hm)
def wTs (X : Cx) : List Expr → TT
  | [] => tYes
  | [c] => wT X c
  | _ => fun _ _ _ => False
theorem pTs : ∀ {ifs : List Expr}, PTs X ifs (wTs X ifs)
  | [] => pts_nil
  | [c] => pts_one pT
  | _ :: _ :: _ => ⟨fun _ _ _ _ _ _ h => False.elim h⟩
/-- over all blocks at once -/
def bT (X : Cx) (scope : Scope) (ifs : List Expr) : TT := fun σ H Q => ∀ Y, Blk X scope Y → wTs Y ifs σ H Q
def bE (X : Cx) (scope : Scope) (e : Expr) : TE := fun σ H Q => ∀ Y, Blk X scope Y → wE Y e σ H Q
def bI (X : Cx) (scope : Scope) (tg it : Expr) : TI := fun σ H R => ∀ Y, Blk X scope Y → wI Y tg it σ H R
theorem blk_mk {s : Shared} {H : Hp} {C : Addr} {cl : List (Str × Addr)} {fp : List Addr} : Blk X scope (X.blk s H scope (compEnvC scope cl C X.env) fp) := ⟨s, H, C, cl, fp, rfl⟩
theorem bT_p {s : Shared} {H : Hp} {C : Addr} {cl : List (Str × Addr)} {fp : List Addr} : PTs (X.blk s H scope (compEnvC scope cl C X.env) fp) ifs (bT X scope ifs) := ⟨fun pins s' σ H' Q I h => pTs.run pins s' σ H' Q I (h _ blk_mk)⟩
theorem bE_p {s : Shared} {H : Hp} {C : Addr} {cl : List (Str × Addr)} {fp : List Addr} {e : Expr} : PE (X.blk s H scope (compEnvC scope cl C X.env) fp) e (bE X scope e) := ⟨fun pins s' σ H' Q I h => pE.run pins s' σ H' Q I (h _ blk_mk)⟩
theorem bI_p {s : Shared} {H : Hp} {C : Addr} {cl : List (Str × Addr)} {fp : List Addr} {tg it : Expr} : PI (X.blk s H scope (compEnvC scope cl C X.env) fp) tg it (bI X scope tg it) := ⟨fun pins s' σ H' R I h => pI.run pins s' σ H' R I (h _ blk_mk)⟩
def wipeR (ρ : List SD) : List Nat → List SD
  | [] => ρ
  | v :: vs => (wipeR ρ vs).set v .un
theorem pwipe {F : Hp} {σ : L2.St} {ρ : List SD} (S : Paired (SOk F) σ ρ) : ∀ vs : List Nat, Paired (SOk F) (wipe σ vs) (wipeR ρ vs)
  | [] => S
  | v :: vs => by
    unfold wipe wipeR
    exact pset SOk.un v (pwipe S vs)
def GTs (Y : Cx) (ρ : List SD) (M : Mem) (ifs : List Expr) (Q : Bool → Mem → Prop) : Prop := match ifs with
  | [] => Q true M
  | [c] => GT Y ρ M c Q
  | _ => False
theorem gts_run {Y : Cx} {Q : Bool → Mem → Prop} (h : GTs Y ρ M ifs Q) : ∀ B F H σ Q', Wd B F H M → Paired (SOk F) σ ρ → SatT B F Q Q' → wTs Y ifs σ H Q' := fun B F H σ Q' W S s => by
  match ifs, h with
  | [], h => exact s _ M F H h W (Same.refl F)
  | [c], h => exact (show GT Y ρ M c Q from h) B F H σ Q' W S s
/-- a turn, behind the target's store: the tests, then the item -/
def LTurn (X : Cx) (scope : Scope) (ρ : List SD) (M : Mem) (ifs : List Expr) (elt : Expr) (yes : Kn) (no : Mem → Prop) : Prop :=
  ∀ Y, Blk X scope Y → GTs Y ρ M ifs fun b M3 => if b = true then ∀ Y2, Blk X scope Y2 → GE Y2 ρ M3 elt yes else no M3
theorem wd_swap {B : Bs} {F F' H H' : Hp} {D : Addr} {mo : MO} {M M' : Mem} (W : Wd B F H ((D, mo) :: M)) (W' : Wd (here F H M) F' H' M') : Wd B F' H' ((D, mo) :: M') := by
  have h1 : ((D, mo) :: M).Perm (M ++ [(D, mo)]) := List.perm_append_comm (l₁ := [(D, mo)])
  have h2 := (W.perm h1).frame W'
  exact h2.perm (List.perm_append_comm (l₂ := [(D, mo)]))
theorem turn_run {B : Bs} {F H : Hp} {σ : L2.St} {D : Addr} {acc : List SD} {yes : Kn} {no : Mem → Prop} {Nx : Hp → Prop} (W : Wd B F H ((D, .lst acc) :: M)) (S : Paired (SOk F) σ ρ) (ha : acc.length < 100000) (h : LTurn X scope ρ M ifs elt yes no)
    (hy : ∀ r M4 F4 H4, yes r M4 → Wd B F4 H4 ((D, .lst (acc ++ [r])) :: M4) → Same F F4 → Nx H4) (hn : ∀ M3 F3 H3, no M3 → Wd B F3 H3 ((D, .lst acc) :: M3) → Same F F3 → Nx H3) :
    bT X scope ifs σ H fun b H3 => if b = true then bE X scope elt σ H3 fun y H4 => ∃ ac, H4 D = some (.lst ac) ∧ ac.length < sizeLine ∧ Nx (upd H4 D (.lst (ac ++ [y]))) else Nx H3 := fun Y hY => by
  have W0 := W.sub (List.sublist_cons_self _ M)
  refine gts_run (h Y hY) (here F H M) F H σ _ W0.here S fun b M3 F3 H3 hb W3 s3 => ?_
  have W3' := wd_swap W W3
  cases b with
  | false => exact iteF (hn M3 F3 H3 hb W3' s3)
  | true =>
    refine iteT fun Y2 hY2 => ?_
    have W4 := W3'.sub (List.sublist_cons_self _ M3)
    refine (show ∀ Y2, Blk X scope Y2 → GE Y2 ρ M3 elt yes from hb) Y2 hY2 (here F3 H3 M3) F3 H3 σ _ W4.here (pMono s3 S) fun r M4 v F4 H4 hr W5 s4 vv => ?_
    have W5' := wd_swap W3' W5
    obtain ⟨f1, vs, f2, f3⟩ := W5'.mem _ List.mem_cons_self
    refine ⟨vs, f2, by rw [Paired.length f3]; exact Nat.lt_of_lt_of_le ha (by decide), ?_⟩
    exact hy r M4 F4 _ hr (W5'.write (paired_app f3 (.cons vv .nil))) (s3.trans s4)
/-- the list as the turns make it -/
def LComp (X : Cx) (scope : Scope) (ρ : List SD) (vs : List Nat) (t : Tg) (ifs : List Expr) (elt : Expr) (Q : Kn) (n : Nat) (item : Nat → SD) (M1 : Mem) : Prop :=
  n ≤ 100000 ∧ ∃ Pv : Nat → List SD → Mem → Prop, Pv 0 [] M1 ∧
    (∀ i acc M', i < n → acc.length ≤ i → Pv i acc M' → ∃ ρ2, t.put (wipeR ρ vs) (item i) = some ρ2 ∧ LTurn X scope ρ2 M' ifs elt (fun r M2 => Pv (i + 1) (acc ++ [r]) M2) (fun M2 => Pv (i + 1) acc M2)) ∧
    ∀ acc M', acc.length ≤ n → Pv n acc M' → ∀ l, Q (.rf (.ref l)) ((l, .lst acc) :: M')
theorem lc_run {t : Tg} {vs : List Nat} {B : Bs} {F H : Hp} {σ : L2.St} {Q' : VK} (hi : ∀ j ∈ t.ix, j ∈ vs) (h : GI X ρ M tg it (LComp X scope ρ vs t ifs elt Q)) (W : Wd B F H M) (S : Paired (SOk F) σ ρ) (s : Sat B F Q Q') :
    tLc (wI X tg it) (t.g X.K) (bT X scope ifs) (bE X scope elt) vs σ H Q' := by
  refine h B F H σ _ W S fun n item M1 J F1 H1 hx W1 s1 gi Dl hD => ?_
  obtain ⟨hn, Pv, p0, turn, fin⟩ := hx
  refine ⟨fun i m H' => i + m = n ∧ ∃ acc M' F', acc.length ≤ i ∧ Pv i acc M' ∧ Wd B F' H' ((Dl, .lst acc) :: M') ∧ Same F1 F', ⟨n, Nat.zero_add n, [], M1, F1, Nat.le_refl 0, p0, W1.newl hD .nil, Same.refl F1⟩, ?_⟩
  rintro i m H' ⟨him, acc, M', F', ha, pv, W', s'⟩
  by_cases hin : i < n
  · refine .inr ⟨gi.go i F' H' s' W'.fh hin, fun H2 => ∃ acc2 M2 F2, acc2.length ≤ i + 1 ∧ Pv (i + 1) acc2 M2 ∧ Wd B F2 H2 ((Dl, .lst acc2) :: M2) ∧ Same F1 F2, fun H2 ⟨a2, M2, F2, q1, q2, q3, q4⟩ => ⟨m - 1, by omega, by omega, a2, M2, F2, q1, q2, q3, q4⟩, fun x H2 y => ?_⟩
    obtain ⟨F2, s2, W2, v2⟩ := gi.yld i B F' H' _ x H2 hin s' W' y
    obtain ⟨ρ2, hp, lt⟩ := turn i acc M' hin ha pv
    refine tg_run W2.fh (pwipe (pMono ((s1.trans s').trans s2) S) vs) v2 hp hi fun σ2 S2 hw => ⟨by rw [hw, wipe_wipe], ?_⟩
    refine turn_run W2 S2 (by omega) lt (fun r M4 F4 H4 q W4 s4 => ?_) (fun M3 F3 H3 q W3 s3 => ?_)
    · exact ⟨_, M4, F4, by rw [List.length_append, List.length_singleton]; omega, q, W4, (s'.trans s2).trans s4⟩
    · exact ⟨acc, M3, F3, by omega, q, W3, (s'.trans s2).trans s3⟩
  · have e : i = n := by omega
    subst e
    exact .inl ⟨gi.stop F' H' s' W'.fh, s _ _ _ F' H' (fin acc M' ha pv Dl) W' (s1.trans s') rfl⟩
/-- how the target stores, in every block -/
abbrev TgOk (X : Cx) (scope : Scope) (tg : Expr) (t : Tg) : Prop := ∀ (s : Shared) (H : Hp) (C : Addr) (cl : List (Str × Addr)) (fp : List Addr), PG (X.blk s H scope (compEnvC scope cl C X.env) fp) tg (t.g X.K)
theorem glc (t : Tg) (hc : X.calm = true) (hN : X.N.Nodup) (ok : BlkOk X.N X.env.scope scope own) (ht : TgOk X scope tg t) (hi : ∀ j ∈ t.ix, j ∈ own.map (·.2)) (h : GI X ρ M tg it (LComp X scope ρ (own.map (·.2)) t ifs elt Q))
    (hs : ∀ x, foldedSetIterable it X.env x = pure x := by intro _; rfl) : GE X ρ M (.ListComp elt [⟨tg, it, ifs, 0⟩] scope pos) Q := .mk fun B F H σ Q' W S s =>
  wE_of (pe_lc hc hN pI ok ht (fun _ _ _ _ _ => bT_p) (fun _ _ _ _ _ => bE_p) hs) (lc_run hi h W S s)
/-- name = [.. for ..] on one row, the name a local -/
theorem ssetlc (i : Nat) (t : Tg) {y : Str} {py spos : Pos} {D : GD} (hc : X.calm = true) (hN : X.N.Nodup) (hy : X.N[i]? = some y) (hyl : X.env.scope.names.lookup y = some .local)
    (hsw : swapsWith (.ListComp elt [⟨tg, it, ifs, 0⟩] scope pos) (some (.Name y py)) spos.line X.env = pure true) (ok : BlkOk X.N X.env.scope scope own) (ht : TgOk X scope tg t) (hi : ∀ j ∈ t.ix, j ∈ own.map (·.2))
    (h : GI X ρ M tg it (LComp X scope ρ (own.map (·.2)) t ifs elt fun r M' => D.nx (ρ.set i r) M'))
    (hs : ∀ x, foldedSetIterable it X.env x = pure x := by intro _; rfl) : GS X ρ M (.Assign [.Name y py] (.ListComp elt [⟨tg, it, ifs, 0⟩] scope pos) spos) D := .mk fun B F H σ D' W S s => by
  refine wS_of (ps_setLc hc hN hy hyl hsw pI ok ht (fun _ _ _ _ _ => bT_p) (fun _ _ _ _ _ => bE_p) hs) ?_
  refine lc_run (Q' := fun v H1 => gName i v σ H1 D'.nx) hi h W S fun r M' v F' H' q W' s' vv => ?_
  exact s.nx _ _ _ F' H' q W' s' (pset vv i (pMono s' S))
/-- two fors -/
def LComp2 (X : Cx) (scope : Scope) (ρ : List SD) (vs vs1 : List Nat) (t t1 : Tg) (ifs : List Expr) (tg1 it1 : Expr) (ifs1 : List Expr) (elt : Expr) (Q : Kn) (n : Nat) (item : Nat → SD) (M1 : Mem) : Prop :=
  ∃ Pv : Nat → List SD → Mem → Prop, Pv 0 [] M1 ∧ (∀ i acc M', Pv i acc M' → acc.length < 50000) ∧
    (∀ i acc M', i < n → Pv i acc M' → ∃ ρ2, t.put (wipeR ρ vs) (item i) = some ρ2 ∧ ∀ Y, Blk X scope Y → GTs Y ρ2 M' ifs fun b M2 => if b = true then
      ∀ Y1, Blk X scope Y1 → GI Y1 ρ2 M2 tg1 it1 fun n1 item1 M3 => ∃ Pw : Nat → List SD → Mem → Prop, Pw 0 acc M3 ∧ (∀ j acc M', Pw j acc M' → acc.length < 50000) ∧
        (∀ j acc2 M4, j < n1 → Pw j acc2 M4 → ∃ ρ3, t1.put (wipeR ρ2 vs1) (item1 j) = some ρ3 ∧ LTurn X scope ρ3 M4 ifs1 elt (fun r M5 => Pw (j + 1) (acc2 ++ [r]) M5) (fun M5 => Pw (j + 1) acc2 M5)) ∧
        ∀ acc2 M4, Pw n1 acc2 M4 → Pv (i + 1) acc2 M4
      else Pv (i + 1) acc M2) ∧
    ∀ acc M', Pv n acc M' → ∀ l, Q (.rf (.ref l)) ((l, .lst acc) :: M')
theorem lc2_run {t t1 : Tg} {vs vs1 : List Nat} {B : Bs} {F H : Hp} {σ : L2.St} {Q' : VK} (hi : ∀ j ∈ t.ix, j ∈ vs) (hi1 : ∀ j ∈ t1.ix, j ∈ vs1) (h : GI X ρ M tg it (LComp2 X scope ρ vs vs1 t t1 ifs tg1 it1 ifs1 elt Q)) (W : Wd B F H M) (S : Paired (SOk F) σ ρ) (s : Sat B F Q Q') :
    tLc2 (wI X tg it) (t.g X.K) (bT X scope ifs) (bI X scope tg1 it1) (t1.g X.K) (bT X scope ifs1) (bE X scope elt) vs vs1 σ H Q' := by
  refine h B F H σ _ W S fun n item M1 J F1 H1 hx W1 s1 gi Dl hD => ?_
  obtain ⟨Pv, p0, hn, turn, fin⟩ := hx
  refine ⟨fun i m H' => i + m = n ∧ ∃ acc M' F', Pv i acc M' ∧ Wd B F' H' ((Dl, .lst acc) :: M') ∧ Same F1 F', ⟨n, Nat.zero_add n, [], M1, F1, p0, W1.newl hD .nil, Same.refl F1⟩, ?_⟩
  rintro i m H' ⟨him, acc, M', F', pv, W', s'⟩
  by_cases hin : i < n
  · refine .inr ⟨gi.go i F' H' s' W'.fh hin, fun H2 => ∃ acc2 M2 F2, Pv (i + 1) acc2 M2 ∧ Wd B F2 H2 ((Dl, .lst acc2) :: M2) ∧ Same F1 F2, fun H2 ⟨a2, M2, F2, q2, q3, q4⟩ => ⟨m - 1, by omega, by omega, a2, M2, F2, q2, q3, q4⟩, fun x H2 y => ?_⟩
    obtain ⟨F2, s2, W2, v2⟩ := gi.yld i B F' H' _ x H2 hin s' W' y
    obtain ⟨ρ2, hp, lt⟩ := turn i acc M' hin pv
    refine tg_run W2.fh (pwipe (pMono ((s1.trans s').trans s2) S) vs) v2 hp hi fun σ2 S2 hw => ⟨by rw [hw, wipe_wipe], fun Y hY => ?_⟩
    have W20 := W2.sub (List.sublist_cons_self _ M')
    refine gts_run (lt Y hY) (here F2 H2 M') F2 H2 σ2 _ W20.here S2 fun b M3 F3 H3 hb W3 s3 => ?_
    have W3' := wd_swap W2 W3
    cases b with
    | false => exact iteF ⟨acc, M3, F3, hb, W3', (s'.trans s2).trans s3⟩
    | true =>
      refine iteT fun Y1 hY1 => ?_
      have W30 := W3'.sub (List.sublist_cons_self _ M3)
      refine (show ∀ Y1, Blk X scope Y1 → GI Y1 ρ2 M3 tg1 it1 _ from hb) Y1 hY1 (here F3 H3 M3) F3 H3 σ2 _ W30.here (pMono s3 S2) fun n1 item1 M4 J1 F4 H4 hx W4 s4 gi1 => ?_
      have W4' := wd_swap W3' W4
      obtain ⟨Pw, w0, hn1, turn1, fin1⟩ := hx
      refine ⟨fun j k H' => j + k = n1 ∧ ∃ acc2 M5 F5, Pw j acc2 M5 ∧ Wd B F5 H' ((Dl, .lst acc2) :: M5) ∧ Same F4 F5, ⟨n1, Nat.zero_add n1, acc, M4, F4, w0, W4', Same.refl F4⟩, ?_⟩
      rintro j k H5 ⟨hjk, acc2, M5, F5, pw, W5, s5⟩
      by_cases hjn : j < n1
      · refine .inr ⟨gi1.go j F5 H5 s5 W5.fh hjn, fun H6 => ∃ acc3 M6 F6, Pw (j + 1) acc3 M6 ∧ Wd B F6 H6 ((Dl, .lst acc3) :: M6) ∧ Same F4 F6, fun H6 ⟨a3, M6, F6, q2, q3, q4⟩ => ⟨k - 1, by omega, by omega, a3, M6, F6, q2, q3, q4⟩, fun x1 H6 y1 => ?_⟩
        obtain ⟨F6, s6, W6, v6⟩ := gi1.yld j B F5 H5 _ x1 H6 hjn s5 W5 y1
        obtain ⟨ρ3, hp1, lt1⟩ := turn1 j acc2 M5 hjn pw
        refine tg_run W6.fh (pwipe (pMono (((s3.trans s4).trans s5).trans s6) S2) vs1) v6 hp1 hi1 fun σ3 S3 hw1 => ⟨by rw [hw1, wipe_wipe], ?_⟩
        refine turn_run W6 S3 (Nat.lt_trans (hn1 j acc2 M5 pw) (by decide)) lt1 (fun r M7 F7 H7 q W7 s7 => ?_) (fun M7 F7 H7 q W7 s7 => ?_)
        · exact ⟨_, M7, F7, q, W7, (s5.trans s6).trans s7⟩
        · exact ⟨acc2, M7, F7, q, W7, (s5.trans s6).trans s7⟩
      · have e : j = n1 := by omega
        subst e
        exact .inl ⟨gi1.stop F5 H5 s5 W5.fh, acc2, M5, F5, fin1 acc2 M5 pw, W5, (((s'.trans s2).trans s3).trans s4).trans s5⟩
  · have e : i = n := by omega
    subst e
    exact .inl ⟨gi.stop F' H' s' W'.fh, s _ _ _ F' H' (fin acc M' pv Dl) W' (s1.trans s') rfl⟩
theorem glc2 (t t1 : Tg) (vs1 : List Nat) (hc : X.calm = true) (hN : X.N.Nodup) (ok : BlkOk X.N X.env.scope scope own) (hv : ∀ i ∈ vs1, i ∈ own.map (·.2)) (ht : TgOk X scope tg t) (ht1 : TgOk X scope tg1 t1) (hi : ∀ j ∈ t.ix, j ∈ own.map (·.2)) (hi1 : ∀ j ∈ t1.ix, j ∈ vs1)
    (h : GI X ρ M tg it (LComp2 X scope ρ (own.map (·.2)) vs1 t t1 ifs tg1 it1 ifs1 elt Q))
    (hs : ∀ x, foldedSetIterable it X.env x = pure x := by intro _; rfl) (hs1 : ∀ env x, foldedSetIterable it1 env x = pure x := by intro _ _; rfl) : GE X ρ M (.ListComp elt [⟨tg, it, ifs, 0⟩, ⟨tg1, it1, ifs1, 0⟩] scope pos) Q := .mk fun B F H σ Q' W S s =>
  wE_of (pe_lc2 hc hN pI ok hv ht (fun _ _ _ _ _ => bT_p) (fun _ _ _ _ _ => bI_p) ht1 (fun _ _ _ _ _ => bT_p) (fun _ _ _ _ _ => bE_p) hs hs1) (lc2_run hi hi1 h W S s)
end
end G

namespace G
open PySem PySem.Spec PyProof.Rows L2
/-! ### sum(lists, []) -/
abbrev LAt (h : Heap) (a : Addr) (its : List Value) : Prop := ∃ n, h.get? a = some { cls := .type "list", data := .seq its.toArray n }
theorem LAt.keep {h h' : Heap} {a : Addr} {its : List Value} (x : LAt h a its) (k : ∀ o, h.get? a = some o → h'.get? a = some o) : LAt h' a its := let ⟨n, e⟩ := x; ⟨n, k _ e⟩
theorem LAt.isList {h : Heap} {a : Addr} {its : List Value} (x : LAt h a its) : h.IsList a its.toArray := let ⟨n, e⟩ := x; ⟨_, e, rfl, n, rfl⟩
section
variable {prog : Program} {w : World} {A : Around} {E : Value → Shared → Prop} {R : Result → Shared → Prop}
theorem sum_lists_loop (hh : A.handled = none) {I S l : Addr} {as : List Addr} {rows : List (List Value)} (hlen : as.length = rows.length) (hz : rows.flatten.length ≤ sizeLine) (hIS : I ≠ S) (hlI : l ≠ I) (hlS : l ≠ S) (haI : ∀ a ∈ as, a ≠ I ∧ a ≠ S) :
    ∀ (k i : Nat) (s : Shared) (p : Addr) (c : Nat), rows.length - i = k → i ≤ rows.length → s.heap.IsListIter I l i → LAt s.heap l (as.map Value.ref) → (∀ (j : Nat) (a : Addr) (r : List Value), as[j]? = some a → rows[j]? = some r → LAt s.heap a r) →
      s.heap.get? S = some { cls := .type "list", data := .seq #[.ref p] c } → p ≠ I → p ≠ S → LAt s.heap p (rows.take i).flatten →
      (∀ (s' : Shared) (q : Addr), s'.gens = s.gens → s'.drawn = s.drawn → s'.os = s.os → s'.toks = s.toks → (∀ b o, b ≠ I → b ≠ S → s.heap.get? b = some o → s'.heap.get? b = some o) → ((q = p ∧ i = rows.length) ∨ s.heap.objs.size ≤ q) → LAt s'.heap q rows.flatten → R (.ok (.ret (.ref q))) s') →
      codeAny (model prog w) A (.builtin "sum.loop" ⟨[.ref I, .ref S, rawInt 2, rawInt 0], []⟩) R s := by
  intro k
  induction k with
  | zero =>
    intro i s p c hk hi hit hl hr hS hpI hpS hp hR
    have e : i = rows.length := by omega
    subst e
    refine codeAny_builtin F.entry_sum_loop ?_
    rw [Around.under_plainId F.plain_sum_loop _]
    show wpAny _ A.in1 (seqItems? (.ref S) >>= _) _ _ s
    refine wpAny_bind (wpAny_seqItems hS rfl ?_)
    show wpAny _ A.in1 (tryCatch (pyNext (.ref I)) _ >>= _) _ _ s
    refine wpAny_bind (wpAny_tryCatch (wpAny_pyNext_list_end hh hit hl.isList (by simp; omega) fun h' eb => ?_))
    rw [List.take_of_length_le (Nat.le_refl _)] at hp
    exact wpAny_pure (hR _ p rfl rfl rfl rfl (fun b o h1 _ q => eb b o h1 q) (.inl ⟨rfl, rfl⟩) (hp.keep fun o q => eb p o hpI q))
  | succ k ih =>
    intro i s p c hk hi hit hl hr hS hpI hpS hp hR
    have hlt : i < rows.length := by omega
    have hla : i < as.length := by omega
    refine codeAny_builtin F.entry_sum_loop ?_
    rw [Around.under_plainId F.plain_sum_loop _]
    show wpAny _ A.in1 (seqItems? (.ref S) >>= _) _ _ s
    refine wpAny_bind (wpAny_seqItems hS rfl ?_)
    show wpAny _ A.in1 (tryCatch (pyNext (.ref I)) _ >>= _) _ _ s
    have ea : as[i]? = some as[i] := List.getElem?_eq_getElem hla
    have er : rows[i]? = some rows[i] := List.getElem?_eq_getElem hlt
    have hmem : as[i] ∈ as := List.getElem_mem hla
    refine wpAny_bind (wpAny_tryCatch (wpAny_pyNext_list_item hit hl.isList (x := .ref as[i]) (by simp [hla]) fun h1 hit1 sb => ?_))
    have kp : ∀ b o, b ≠ I → s.heap.get? b = some o → h1.get? b = some o := fun b o hb q => (sb.2 b hb).trans q
    have hS1 : h1.get? S = some { cls := .type "list", data := .seq #[.ref p] c } := kp S _ hIS.symm hS
    obtain ⟨n1, g1⟩ := hp.keep fun o q => kp p o hpI q
    obtain ⟨n2, g2⟩ := (hr i _ _ ea er).keep fun o q => kp _ o (haI _ hmem).1 q
    have hz2 : (rows.take (i + 1)).flatten.length ≤ sizeLine := by
      refine Nat.le_trans ?_ hz
      have z : rows.flatten = (rows.take (i + 1)).flatten ++ (rows.drop (i + 1)).flatten := by rw [← List.flatten_append, List.take_append_drop]
      rw [z, List.length_append]
      omega
    have et : (rows.take (i + 1)).flatten = (rows.take i).flatten ++ rows[i] := by
      have h9 : rows.take (i + 1) = rows.take i ++ [rows[i]] := by
        rw [List.take_add_one, er]
        rfl
      rw [h9, List.flatten_append]
      simp only [List.flatten_cons, List.flatten_nil, List.append_nil]
    show wpAny _ A.in1 ((holding [Value.ref as[i]] (binaryOp .Add (.ref p) (.ref as[i]))).attempt >>= _) _ _ { s with heap := h1 }
    refine wpAny_bind (wpAny_attempt (wpAny_holding (PySem.P.add_list (s := { s with heap := h1 }) g1 g2 ?_ (by rw [List.size_toArray, List.size_toArray, ← List.length_append, ← et]; exact hz2))))
    have hq : h1.objs.size ≠ I ∧ h1.objs.size ≠ S := by
      obtain ⟨o, q, _⟩ := hit1
      exact ⟨Nat.ne_of_gt (Heap.lt_size q), Nat.ne_of_gt (Heap.lt_size hS1)⟩
    have k2 : ∀ b o, h1.get? b = some o → (h1.push { cls := .type "list", data := .seq ((rows.take i).flatten.toArray ++ rows[i].toArray) }).get? b = some o := fun b o q => Heap.get?_push_of_some _ q
    show wpAny _ A.in1 (updateSeq S (fun _ => #[.ref h1.objs.size]) >>= _) _ _ _
    refine wpAny_bind (wpAny_updateSeq (k2 _ _ hS1) rfl ?_)
    have hS2 := Heap.get?_update_self (Obj.mapSeq fun _ => #[Value.ref h1.objs.size]) (k2 _ _ hS1) rfl
    refine wpAny_bind (wpAny_letGo ?_)
    refine wpAny_bind (wpAny_updateSeq hS2 rfl ?_)
    refine wpAny_pure ⟨plainId_quiet F.plain_sum_loop _, ?_⟩
    have up : ∀ b o, b ≠ S → h1.get? b = some o → (((h1.push { cls := .type "list", data := .seq ((rows.take i).flatten.toArray ++ rows[i].toArray) }).update S (Obj.mapSeq fun _ => #[Value.ref h1.objs.size])).update S (Obj.mapSeq fun _ => #[Value.ref h1.objs.size])).get? b = some o := fun b o hb q => by
      rw [Heap.get?_update_other _ _ (Ne.symm hb), Heap.get?_update_other _ _ (Ne.symm hb)]
      exact k2 b o q
    have ups : ∀ b o, b ≠ I → b ≠ S → s.heap.get? b = some o → (((h1.push { cls := .type "list", data := .seq ((rows.take i).flatten.toArray ++ rows[i].toArray) }).update S (Obj.mapSeq fun _ => #[Value.ref h1.objs.size])).update S (Obj.mapSeq fun _ => #[Value.ref h1.objs.size])).get? b = some o := fun b o hb hb2 q => up b o hb2 (kp b o hb q)
    refine ih (i + 1) _ h1.objs.size _ (by omega) (by omega) ?_ (hl.keep fun o q => ups l o hlI hlS q) (fun j a r e1 e2 => (hr j a r e1 e2).keep fun o q => ups a o (haI a (List.mem_of_getElem? e1)).1 (haI a (List.mem_of_getElem? e1)).2 q) (Heap.get?_update_self _ hS2 rfl) hq.1 hq.2 ?_ ?_
    · exact hit1.at fun o q => up I o hIS q
    · refine ⟨0, ?_⟩
      rw [Heap.get?_update_other _ _ (Ne.symm hq.2), Heap.get?_update_other _ _ (Ne.symm hq.2), et]
      refine (Heap.get?_push_size _ rfl).trans ?_
      simp
    · intro s' q a1 a2 a3 a4 a5 a6 a7
      have hsz : s.heap.objs.size ≤ h1.objs.size := by
        have z := sb.1
        omega
      refine hR s' q a1 a2 a3 a4 (fun b o h1 h2 e => a5 b o h1 h2 (ups b o h1 h2 e)) ?_ a7
      right
      rcases a6 with a6 | a6
      · rw [a6.1]
        exact hsz
      · refine Nat.le_trans hsz (Nat.le_trans ?_ a6)
        simp [Heap.size_push]
theorem sub_list_bytearray : isSubtype (.type "list") (.type "bytearray") = pure false := by
  rw [isSubtype_type]
  kernel_rfl
theorem args_sum2 (a b : Value) : argsOk "sum" ⟨[a, b], []⟩ := by
  unfold argsOk
  kernel_rfl
/-- sum(rows, start): start an empty list -/
theorem sum_lists {s : Shared} {Q : Value → Shared → Prop} (hh : A.handled = none) {l st : Addr} {as : List Addr} {rows : List (List Value)} (hlen : as.length = rows.length) (hz : rows.flatten.length ≤ sizeLine)
    (hl : LAt s.heap l (as.map Value.ref)) (hr : ∀ (j : Nat) (a : Addr) (r : List Value), as[j]? = some a → rows[j]? = some r → LAt s.heap a r) (hst : LAt s.heap st [])
    (hQ : ∀ (s' : Shared) (q : Addr), s'.gens = s.gens → s'.drawn = s.drawn → s'.os = s.os → s'.toks = s.toks → (∀ b o, s.heap.get? b = some o → s'.heap.get? b = some o) → ((q = st ∧ rows = []) ∨ s.heap.objs.size ≤ q) → LAt s'.heap q rows.flatten → Q (.ref q) s') :
    wpAny (model prog w) A (call (.builtin "sum") [.ref l, .ref st]) Q E s := by
  refine call_function_tree F.kind_sum F.plain_sum F.entry_sum (args_sum2 _ _) ?_
  unfold Builtin.«sum»
  simp only [List.length_cons, List.length_nil]
  rw [if_neg (by decide)]
  refine wpAny_bind (wpAny_of_eq (show Builtin.Builtins.bindParams "sum" ["start"] 0 ⟨[.ref st], []⟩ = pure [some (.ref st)] from rfl) ?_)
  refine wpAny_bind (wpAny_pyIter_list hl.isList ?_)
  refine wpAny_bind (wpAny_pure ?_)
  have k1 : ∀ b o, s.heap.get? b = some o → (s.heap.push { cls := .type "list_iterator", data := .fields #[.ref l, .int 0 0] }).get? b = some o := fun b o q => Heap.get?_push_of_some _ q
  obtain ⟨n0, e0⟩ := hst
  have ty : ({ s with heap := s.heap.push { cls := .type "list_iterator", data := .fields #[.ref l, .int 0 0] } } : Shared).TypeIs (.ref st) "list" := ⟨_, k1 _ _ e0, rfl⟩
  simp only [List.forIn_cons, List.forIn_nil]
  refine wpAny_bind (wpAny_bind (wpAny_bind (wpAny_isInstance (T := "list") (b := false) ty F.sub_list_str ?_)))
  simp only [Bool.false_eq_true, if_false]
  refine wpAny_pure (wpAny_bind (wpAny_bind (wpAny_isInstance (T := "list") (b := false) ty F.sub_list_bytes ?_)))
  simp only [Bool.false_eq_true, if_false]
  refine wpAny_pure (wpAny_bind (wpAny_bind (wpAny_isInstance (T := "list") (b := false) ty sub_list_bytearray ?_)))
  simp only [Bool.false_eq_true, if_false]
  refine wpAny_pure (wpAny_pure ?_)
  refine wpAny_bind (wpAny_newObj_type ?_)
  have k2 : ∀ b o, s.heap.get? b = some o → ((s.heap.push { cls := .type "list_iterator", data := .fields #[.ref l, .int 0 0] }).push { cls := .type "list", data := .seq #[.ref st] }).get? b = some o := fun b o q => Heap.get?_push_of_some _ (k1 b o q)
  have nI : ∀ b o, s.heap.get? b = some o → b ≠ s.heap.objs.size := fun b o q => Nat.ne_of_lt (Heap.lt_size q)
  have sz1 : (s.heap.push { cls := .type "list_iterator", data := .fields #[.ref l, .int 0 0] }).objs.size = s.heap.objs.size + 1 := Heap.size_push ..
  have nS : ∀ b o, s.heap.get? b = some o → b ≠ (s.heap.push { cls := .type "list_iterator", data := .fields #[.ref l, .int 0 0] }).objs.size := fun b o q => by
    rw [sz1]
    exact Nat.ne_of_lt (Nat.lt_succ_of_lt (Heap.lt_size q))
  obtain ⟨nl, el⟩ := id hl
  refine wpAny_pure ⟨plainId_quiet F.plain_sum_loop _, sum_lists_loop hh (I := s.heap.objs.size) (S := (s.heap.push { cls := .type "list_iterator", data := .fields #[.ref l, .int 0 0] }).objs.size) (l := l) (as := as) hlen hz (by rw [sz1]; exact Nat.ne_of_lt (Nat.lt_succ_self _)) (nI l _ el) (nS l _ el) (fun a ha => ?_)
    rows.length 0 _ st 0 (Nat.sub_zero _) (Nat.zero_le _) ?_ (hl.keep fun o q => k2 l o q) (fun j a r e1 e2 => (hr j a r e1 e2).keep fun o q => k2 a o q) (Heap.get?_push_size _ rfl) (nI st _ e0) (nS st _ e0) ⟨n0, k2 _ _ e0⟩ ?_⟩
  · obtain ⟨j, hj, e⟩ := List.mem_iff_getElem.mp ha
    obtain ⟨n, q⟩ := hr j a rows[j] (by rw [← e]; exact List.getElem?_eq_getElem hj) (List.getElem?_eq_getElem (by omega))
    exact ⟨nI a _ q, nS a _ q⟩
  · exact ⟨_, Heap.get?_push_of_some _ (Heap.get?_push_size _ rfl), rfl, rfl⟩
  · intro s' q a1 a2 a3 a4 a5 a6 a7
    refine hQ s' q a1 a2 a3 a4 (fun b o e => a5 b o (nI b o e) (nS b o e) (k2 b o e)) ?_ a7
    rcases a6 with z | z
    · exact .inl ⟨z.1, List.length_eq_zero_iff.mp z.2.symm⟩
    · refine .inr (Nat.le_trans ?_ z)
      show s.heap.objs.size ≤ ((s.heap.push _).push _).objs.size
      rw [Heap.size_push, Heap.size_push]
      omega
end
section
variable {X : Cx} {ρ : List SD} {M : Mem} {Q : Kn} {pos : Pos} {a b : Expr}
def rSumL : List V → Hp → VK → Prop := fun vs H Q => ∃ (l st : Addr) (as : List Addr) (rows : List (List V)), vs = [.ref l, .ref st] ∧ H l = some (.lst (as.map V.ref)) ∧ H st = some (.lst []) ∧ Paired (fun (a : Addr) r => H a = some (HO.lst r)) as rows ∧ rows.flatten.length ≤ sizeLine ∧
  rows ≠ [] ∧ ∀ p, H p = none → Q (.ref p) (upd H p (.lst rows.flatten))
theorem refs_of : ∀ {as : List Addr} {us : List Value}, Vals (as.map V.ref) us → us = as.map Value.ref
  | [], _, .nil => rfl
  | a :: as, _, .cons r t => by
    have r : _ = Value.ref a := r
    rw [r, refs_of t]
    rfl
theorem rows_of {pins : List (Addr × Obj)} {σ : L2.St} {H : Hp} {s : Shared} (I : Inv X pins σ H s) : ∀ {as : List Addr} {rows : List (List V)}, Paired (fun (a : Addr) r => H a = some (HO.lst r)) as rows →
    ∃ rv : List (List Value), Vals rows.flatten rv.flatten ∧ as.length = rv.length ∧ (rv = [] → rows = []) ∧ ∀ (j : Nat) (a : Addr) (r : List Value), as[j]? = some a → rv[j]? = some r → LAt s.heap a r
  | [], _, .nil => ⟨[], .nil, rfl, fun _ => rfl, fun j a r h => by simp at h⟩
  | a :: as, r :: rows, .cons h t => by
    obtain ⟨rv, h1, h2, h3, h4⟩ := rows_of I t
    obtain ⟨z, its, n, g1, g2, g3⟩ := I.lstM h
    refine ⟨its :: rv, ?_, by rw [List.length_cons, List.length_cons, h2], fun e => (by cases e), fun j a' r' e1 e2 => ?_⟩
    · rw [List.flatten_cons, List.flatten_cons]
      exact g1.append h1
    · cases j with
      | zero =>
        have e1 : a = a' := Option.some.inj e1
        have e2 : its = r' := Option.some.inj e2
        subst e1 e2
        exact ⟨n, g3⟩
      | succ j => exact h4 j a' r' (by simpa using e1) (by simpa using e2)
theorem cr_sumL (hc : X.calm = true) : CallR X (.builtin "sum") rSumL := by
  intro pins s σ H xs us Q I r h
  obtain ⟨l, st, as, rows, rfl, hl, hst, hp, hz, hne, q⟩ := h
  cases r with
  | cons r1 r2 =>
    cases r2 with
    | cons r2 r3 =>
      cases r3
      have r1 : _ = Value.ref l := r1
      have r2 : _ = Value.ref st := r2
      subst r1 r2
      obtain ⟨z1, its, n, g1, g2, g3⟩ := I.lstM hl
      have e1 := refs_of g1
      subst e1
      obtain ⟨z2, its2, n2, f1, f2, f3⟩ := I.lstM hst
      have e2 : its2 = [] := by cases f1; rfl
      subst e2
      obtain ⟨rv, h1, h2, h3, h4⟩ := rows_of I hp
      refine sum_lists (I.ok.hd hc) h2 (by rw [← h1.length]; exact hz) ⟨n, g3⟩ h4 ⟨n2, f3⟩ fun s' p a1 a2 a3 a4 a5 a6 a7 => ?_
      have a6 : s.heap.objs.size ≤ p := by
        rcases a6 with z | z
        · exact absurd (h3 z.2) hne
        · exact z
      obtain ⟨n', e'⟩ := a7
      obtain ⟨h', g', d', t', o'⟩ := s'
      obtain rfl : g' = s.gens := a1
      obtain rfl : d' = s.drawn := a2
      obtain rfl : o' = s.os := a3
      exact ⟨.ref p, _, I.laid (a := p) (o := .lst rows.flatten) (t' := t') a5 a6 ⟨hz, rv.flatten, n', h1, e'⟩, rfl, q p (I.hok.fresh a6)⟩
theorem lvs_at {B : Bs} {F H : Hp} (W : Wd B F H M) : ∀ {vs : List V} {xs : List SD} {yss : List (List SD)}, Paired (VOk F) vs xs → Paired (LV M) xs yss →
    ∃ (as : List Addr) (rows : List (List V)), vs = as.map V.ref ∧ Paired (fun (a : Addr) r => H a = some (HO.lst r)) as rows ∧ Paired (VOk F) rows.flatten yss.flatten ∧ rows.length = yss.length
  | _, _, _, .nil, .nil => ⟨[], [], rfl, .nil, .nil, rfl⟩
  | _, _, _, .cons v1 v2, .cons l1 l2 => by
    obtain ⟨as, rows, e1, e2, e3, e4⟩ := lvs_at W v2 l2
    obtain ⟨p, ws, g1, g2, g3⟩ := l1.at W v1
    refine ⟨p :: as, ws :: rows, by rw [g1, e1]; rfl, .cons g2 e2, ?_, by rw [List.length_cons, List.length_cons, e4]⟩
    rw [List.flatten_cons, List.flatten_cons]
    exact paired_app g3 e3
/-- sum(lists, []): a new list -/
theorem gsumL {p : Pos} (hc : X.calm = true) (hm : X.mg "sum" = none) (h : GE X ρ M a fun x M1 => GE X ρ M1 b fun y M2 => ∃ xs yss st, LV M2 x xs ∧ Paired (LV M2) xs yss ∧ yss ≠ [] ∧ y = .rf (.ref st) ∧ (st, MO.lst []) ∈ M2 ∧ yss.flatten.length ≤ 100000 ∧ ∀ l, Q (.rf (.ref l)) ((l, .lst yss.flatten) :: M2))
    (hg : Gl X "sum" := by rfl) (he : starEach [a, b] X.env = [(false, eval a X.env), (false, eval b X.env)] := by rfl) (he2 : starEach [b] X.env = [(false, eval b X.env)] := by rfl) : GE X ρ M (.Call (.Name "sum" p) [a, b] [] pos) Q :=
  gcb (cr_sumL hc) hm PyProof.Rows.boot_sum (acons (h.mono fun x M1 h => acons (h.mono fun y M2 ⟨xs, yss, st, l1, l2, hne, ey, hs, hz, q⟩ => anil fun B F H vs Q' W hvs s => by
    subst ey
    obtain ⟨v, w, rfl, hv, hw⟩ := p2 hvs
    have hw : w = .ref st := hw
    subst hw
    obtain ⟨p, ws, rfl, hp, pr⟩ := l1.at W hv
    obtain ⟨as, rows, e1, e2, e3, e4⟩ := lvs_at W pr l2
    subst e1
    obtain ⟨f1, ws, f2, f3⟩ := W.mem _ hs
    cases f3
    have hl : rows.flatten.length = yss.flatten.length := Paired.length e3
    refine ⟨p, st, as, rows, rfl, hp, f2, e2, by rw [hl]; exact Nat.le_trans hz (by decide), fun z => hne ?_, fun q' hq => s _ _ _ F _ (q q') (W.newl hq e3) (Same.refl F) rfl⟩
    subst z
    exact List.length_eq_zero_iff.mp e4.symm) he2) (by rw [he, he2])) hg (he := by rw [he, he2]) (hpl := by rw [he2]; rfl)
end
end G

namespace G
open PySem PySem.Spec PyProof.Rows L2
/-! ### zip of any number of lists, by a star -/
abbrev zipO (f0 : Value) (f1 : Bool) (TI TO : Addr) : Obj := { cls := .type "zip", dict := none, data := .fields #[f0, .bool f1, .bool false, .ref TI, .ref TO], slots := #[] }
abbrev tupO (vs : List Value) : Obj := { cls := .type "tuple", data := .seq vs.toArray }
/-- what the addresses of a walk keep apart -/
structure ZAp (z TI TO : Addr) (is ls : List Addr) : Prop where
  len : is.length = ls.length
  pos : 0 < is.length
  TIz : TI ≠ z
  TOz : TO ≠ z
  TIO : TI ≠ TO
  iz : ∀ i ∈ is, i ≠ z ∧ i ≠ TI ∧ i ≠ TO
  lz : ∀ l ∈ ls, l ≠ z ∧ l ≠ TO ∧ l ∉ is
  nd : is.Nodup
/-- the lists' iterators stand at k -/
abbrev ItsAt (is ls : List Addr) (k : Nat) (h : Heap) : Prop := ∀ (j : Nat) (i l : Addr), is[j]? = some i → ls[j]? = some l → h.IsListIter i l k
abbrev RowsAt (ls : List Addr) (rows : List (List Value)) (h : Heap) : Prop := ∀ (j : Nat) (l : Addr) (r : List Value), ls[j]? = some l → rows[j]? = some r → LAt h l r
section
variable {prog : Program} {w : World} {A : Around} {E : Value → Shared → Prop} {s : Shared}
theorem wpAny_alive {M : Model} {A : Around} {a : Addr} {s : Shared} {E : Value → Shared → Prop} {Q : Option Obj → Shared → Prop} (h : Q (s.heap.get? a) s) : wpAny M A (loadIfAlive a) Q E s := fun Γ p hΓ => by
  unfold loadIfAlive
  rw [Sem.wp_loadIfAlive]
  exact wpAny_pure (M := M) (A := A) (E := E) h Γ p hΓ
/-- whose tuple it is -/
def FreeT (f0 : Value) (h : Heap) : Prop := f0 = .none ∨ ∃ T : Addr, f0 = rawInt T ∧ h.get? T = none
theorem free_yes {z TI TO : Addr} {f0 : Value} {f1 : Bool} {Q : Bool → Shared → Prop} (hz : s.heap.get? z = some (zipO f0 f1 TI TO)) (hf : FreeT f0 s.heap) (h : Q true s) : wpAny (model prog w) A (Builtin.SmallTypes.ownedTupleIsFree (.ref z)) Q E s := by
  unfold Builtin.SmallTypes.ownedTupleIsFree
  rcases hf with rfl | ⟨T, rfl, hT⟩
  · exact wpAny_bind (wpAny_field hz rfl (x := .none) rfl (wpAny_pure h))
  · refine wpAny_bind (wpAny_field hz rfl (x := rawInt T) rfl ?_)
    show wpAny _ _ (loadIfAlive (T : Int).toNat >>= _) _ _ _
    refine wpAny_bind (wpAny_alive ?_)
    rw [Int.toNat_natCast, hT]
    exact wpAny_pure h
theorem free_no {z TI TO T : Addr} {o : Obj} {f1 : Bool} {Q : Bool → Shared → Prop} (hz : s.heap.get? z = some (zipO (rawInt T) f1 TI TO)) (hT : s.heap.get? T = some o) (h : ∀ h', h'.get? z = some (zipO (rawInt T) true TI TO) → Heap.SameBut z s.heap h' → Q false { s with heap := h' }) :
    wpAny (model prog w) A (Builtin.SmallTypes.ownedTupleIsFree (.ref z)) Q E s := by
  unfold Builtin.SmallTypes.ownedTupleIsFree
  refine wpAny_bind (wpAny_field hz rfl (x := rawInt T) rfl ?_)
  show wpAny _ _ (loadIfAlive (T : Int).toNat >>= _) _ _ _
  refine wpAny_bind (wpAny_alive ?_)
  rw [Int.toNat_natCast, hT]
  show wpAny _ _ (field (.ref z) 1 >>= _) _ _ _
  refine wpAny_bind (wpAny_field hz rfl (x := .bool f1) rfl ?_)
  cases f1 with
  | true => exact wpAny_pure (h _ hz (.refl ..))
  | false =>
    show wpAny _ _ (setField (.ref z) 1 (.bool true) >>= _) _ _ _
    refine wpAny_bind (wpAny_setField_rec hz (by simp) fun h₁ hz₁ hs₁ => wpAny_pure (h _ hz₁ hs₁))
/-- the loop that fills the owned tuple -/
theorem zip_fill {z TI TO : Addr} {is ls : List Addr} {k : Nat} {rows : List (List Value)} {xs ws : List Value} {f0 : Value} {f1 : Bool} {Q : Fin → Shared → Prop} (D : ZAp z TI TO is ls)
    (hz : s.heap.get? z = some (zipO f0 f1 TI TO)) (hf : FreeT f0 s.heap) (hTI : s.heap.get? TI = some (tupO (is.map Value.ref))) (hTO : s.heap.get? TO = some (tupO ws)) (hws : ws.length = is.length) (hit : ItsAt is ls k s.heap)
    (hl : RowsAt ls rows s.heap) (hr : rows.length = is.length) (hx : ∀ (j : Nat) (r : List Value), rows[j]? = some r → ∃ x, xs[j]? = some x ∧ r[k]? = some x) (hxl : xs.length = is.length) (hsz : is.length ≤ 100)
    (hQ : ∀ h' : Heap, h'.get? z = some (zipO (rawInt s.heap.objs.size) false TI TO) → h'.get? TO = some (tupO xs) → ItsAt is ls (k + 1) h' → h'.get? s.heap.objs.size = some (tupO xs) → h'.objs.size = s.heap.objs.size + 1 →
      (∀ c o, c ≠ z → c ≠ TO → c ∉ is → s.heap.get? c = some o → h'.get? c = some o) → Q (.done (.ret (.ref s.heap.objs.size))) { s with heap := h' }) :
    wpAny (model prog w) A (Builtin.«zip.__next__» ⟨[.ref z], []⟩) Q E s := by
  show wpAny _ _ (field (.ref z) 2 >>= _) _ _ _
  refine wpAny_bind (wpAny_field hz rfl (x := .bool false) rfl ?_)
  show wpAny _ _ (field (.ref z) 3 >>= _) _ _ _
  refine wpAny_bind (wpAny_field hz rfl (x := .ref TI) rfl ?_)
  refine wpAny_bind (wpAny_seqItems hTI rfl ?_)
  have ne : ((is.map Value.ref).toArray).isEmpty = false := by
    have := D.pos
    cases is with
    | nil => simp at this
    | cons i is => simp
  simp only [ne, Bool.false_eq_true, if_false]
  show wpAny _ _ (Builtin.SmallTypes.ownedTupleIsFree (.ref z) >>= _) _ _ _
  refine wpAny_bind (free_yes hz hf ?_)
  simp only [if_true]
  refine wpAny_bind (wpAny_rule ?_)
  refine wpAny_bind (wpAny_field hz rfl (x := .ref TO) rfl ?_)
  refine wpAny_bind (wpAny_setField_rec hz (by simp) fun h₁ hz₁ hs₁ => ?_)
  replace hz₁ : h₁.get? z = some (zipO .ellipsis f1 TI TO) := hz₁
  refine wpAny_bind ?_
  have lenL : ((is.map Value.ref).toArray.toList.zipIdx).length = is.length := by simp
  refine wpAny_forIn_list _ (fun rest b s' => b = (none, ()) ∧ ∃ (j : Nat) (h' : Heap), s' = { s with heap := h' } ∧ rest = ((is.map Value.ref).toArray.toList.zipIdx).drop j ∧ j ≤ is.length ∧ h'.get? z = some (zipO .ellipsis f1 TI TO) ∧ h'.get? TO = some (tupO (xs.take j ++ ws.drop j)) ∧
    (∀ (m : Nat) (i l : Addr), is[m]? = some i → ls[m]? = some l → h'.IsListIter i l (if m < j then k + 1 else k)) ∧ h'.objs.size = s.heap.objs.size ∧ ∀ c o, c ≠ z → c ≠ TO → c ∉ is → s.heap.get? c = some o → h'.get? c = some o) _ ?_ ?_ _ _ ?_
  · rintro x rest b s' ⟨rfl, j, h', rfl, hrest, hj, g1, g2, g3, g4, g5⟩
    have hjn : j < is.length := by
      refine Nat.lt_of_not_le fun hle => ?_
      rw [List.drop_eq_nil_of_le (by rw [lenL]; exact hle)] at hrest
      cases hrest
    have hjl : j < ls.length := by rw [← D.len]; exact hjn
    have hjr : j < rows.length := by rw [hr]; exact hjn
    have ex : x = (Value.ref is[j], j) ∧ rest = ((is.map Value.ref).toArray.toList.zipIdx).drop (j + 1) := by
      rw [List.drop_eq_getElem_cons (by rw [lenL]; exact hjn)] at hrest
      injection hrest with e1 e2
      refine ⟨?_, e2⟩
      rw [e1]
      simp
    obtain ⟨rfl, hrest2⟩ := ex
    have ei : is[j]? = some is[j] := List.getElem?_eq_getElem hjn
    have el : ls[j]? = some ls[j] := List.getElem?_eq_getElem hjl
    have er : rows[j]? = some rows[j] := List.getElem?_eq_getElem hjr
    have mi := D.iz is[j] (List.getElem_mem hjn)
    have ml := D.lz ls[j] (List.getElem_mem hjl)
    obtain ⟨y, y1, y2⟩ := hx j _ er
    have hit0 := g3 j _ _ ei el
    rw [if_neg (Nat.lt_irrefl j)] at hit0
    have hl0 := (hl j _ _ el er).keep fun o q => g5 ls[j] o ml.1 ml.2.1 ml.2.2 q
    refine wpAny_bind (wpAny_onRaise ?_)
    show wpAny _ _ (Builtin.SmallTypes.nextOf (.ref is[j]) >>= _) _ _ _
    refine wpAny_bind (wpAny_nextOf_list_item hit0 hl0.isList (x := y) (by simpa using y2) fun h₂ hit2 sb => wpAny_pure ?_)
    have k2 : ∀ c o, c ≠ is[j] → h'.get? c = some o → h₂.get? c = some o := fun c o hc q => (sb.2 c hc).trans q
    have t2 := k2 TO _ (Ne.symm mi.2.2) g2
    refine wpAny_bind (wpAny_seqItems t2 rfl ?_)
    refine wpAny_bind (wpAny_updateSeq t2 rfl ?_ (by rw [List.size_toArray, List.length_append, List.length_take, List.length_drop, hxl, hws, sizeLine_eq]; omega) (by simp [hxl, hws, sizeLine_eq]; omega))
    refine wpAny_bind (wpAny_letGo (wpAny_pure ?_))
    have k3 : ∀ c o, c ≠ TO → h₂.get? c = some o → (h₂.update TO (Obj.mapSeq fun x => x.setIfInBounds j y)).get? c = some o := fun c o hc q => by
      rw [Heap.get?_update_other _ _ (Ne.symm hc)]
      exact q
    refine ⟨rfl, j + 1, _, rfl, hrest2, hjn, k3 _ _ D.TOz.symm (k2 _ _ (Ne.symm mi.1) g1), ?_, fun m i l e1 e2 => ?_, ?_, fun c o c1 c2 c3 q => k3 c o c2 (k2 c o (fun z => c3 (z ▸ List.getElem_mem hjn)) (g5 c o c1 c2 c3 q))⟩
    · rw [Heap.get?_update_self _ t2 rfl]
      have yj : j < xs.length := by rw [hxl]; exact hjn
      have wj : j < ws.length := by rw [hws]; exact hjn
      have e1 : xs.take (j + 1) = xs.take j ++ [y] := by
        rw [List.take_add_one, y1]
        rfl
      have e2 : ws.drop j = ws[j] :: ws.drop (j + 1) := List.drop_eq_getElem_cons wj
      have e3 : (xs.take j ++ ws.drop j).set j y = xs.take (j + 1) ++ ws.drop (j + 1) := by
        rw [e1, e2, List.set_append_right _ _ (by rw [List.length_take]; omega)]
        have e4 : j - (xs.take j).length = 0 := by rw [List.length_take]; omega
        rw [e4, List.set_cons_zero, List.append_assoc]
        rfl
      show some (Obj.mapSeq _ (tupO _)) = some (tupO _)
      rw [← e3]
      simp [Obj.mapSeq]
    · have ne : i ≠ TO := (D.iz i (List.mem_of_getElem? e1)).2.2
      by_cases hm : m = j
      · subst hm
        rw [ei] at e1
        rw [el] at e2
        cases e1
        cases e2
        rw [if_pos (Nat.lt_succ_self m)]
        exact hit2.at fun o q => k3 _ o ne q
      · have z := g3 m i l e1 e2
        have hne : i ≠ is[j] := fun q => by
          obtain ⟨hm1, hm2⟩ := List.getElem?_eq_some_iff.mp e1
          exact hm ((List.getElem_inj D.nd).mp (hm2.trans q))
        have e4 : (m < j + 1) = (m < j) := propext ⟨fun q => by omega, fun q => by omega⟩
        simp only [e4]
        exact z.at fun o q => k3 _ o ne (k2 _ o hne q)
    · show (h₂.update TO _).objs.size = _
      rw [(Heap.SameBut.update h₂ TO _).1, sb.1]
      exact g4
  · rintro b s' ⟨rfl, j, h', rfl, hrest, hj, g1, g2, g3, g4, g5⟩
    have hjn : j = is.length := by
      refine Nat.le_antisymm hj (Nat.le_of_not_lt fun hlt => ?_)
      rw [List.drop_eq_getElem_cons (by rw [lenL]; exact hlt)] at hrest
      cases hrest
    subst hjn
    have t2 : h'.get? TO = some (tupO xs) := by
      rw [g2, List.take_of_length_le (by rw [hxl]; exact Nat.le_refl _), List.drop_eq_nil_of_le (by rw [hws]; exact Nat.le_refl _), List.append_nil]
    show wpAny _ _ (seqItems? (.ref TO) >>= _) _ _ _
    refine wpAny_bind (wpAny_seqItems t2 rfl ?_)
    have exs : xs.toArray.toList = xs := by simp
    show wpAny _ _ (newTuple xs.toArray.toList >>= _) _ _ _
    rw [exs]
    refine wpAny_bind (wpAny_newTuple ?_ (by rw [hxl, sizeLine_eq]; omega))
    show wpAny _ _ (Builtin.SmallTypes.ownedTupleHandOut (.ref z) (.ref h'.objs.size) >>= _) _ _ _
    refine wpAny_bind ?_
    unfold Builtin.SmallTypes.ownedTupleHandOut
    have kp : ∀ c o, h'.get? c = some o → (h'.push (tupO xs)).get? c = some o := fun c o q => Heap.get?_push_of_some _ q
    refine wpAny_bind (wpAny_setField_rec (kp _ _ g1) (by simp) fun h₇ hz₇ hs₇ => ?_)
    replace hz₇ : h₇.get? z = some (zipO (rawInt h'.objs.size) f1 TI TO) := hz₇
    refine wpAny_setField_rec hz₇ (by simp) fun h₈ hz₈ hs₈ => ?_
    replace hz₈ : h₈.get? z = some (zipO (rawInt h'.objs.size) false TI TO) := hz₈
    have up : ∀ c o, c ≠ z → h'.get? c = some o → h₈.get? c = some o := fun c o c1 q => (hs₈.2 c c1).trans ((hs₇.2 c c1).trans (kp c o q))
    have hzlt : z < h'.objs.size := Heap.lt_size g1
    have hT : h₈.get? h'.objs.size = some (tupO xs) := (hs₈.2 _ (Nat.ne_of_gt hzlt)).trans ((hs₇.2 _ (Nat.ne_of_gt hzlt)).trans (Heap.get?_push_size _ rfl))
    have hz8 : h₈.objs.size = h'.objs.size + 1 := by rw [hs₈.1, hs₇.1, Heap.size_push]
    rw [g4] at hz₈ hT hz8
    refine wpAny_pure ?_
    show Q (.done (.ret (.ref h'.objs.size))) _
    rw [g4]
    refine hQ h₈ hz₈ (up _ _ D.TOz t2) (fun m i l e1 e2 => ?_) hT hz8 fun c o c1 c2 c3 q => up c o c1 (g5 c o c1 c2 c3 q)
    have q := g3 m i l e1 e2
    rw [if_pos (List.getElem?_eq_some_iff.mp e1).1] at q
    exact q.at fun o q => up i o (D.iz i (List.mem_of_getElem? e1)).1 q
  · refine ⟨rfl, 0, h₁, rfl, rfl, Nat.zero_le _, hz₁, ?_, fun m i l e1 e2 => ?_, hs₁.1, fun c o c1 c2 c3 q => (hs₁.2 c c1).trans q⟩
    · exact (hs₁.2 _ D.TOz).trans hTO
    · rw [if_neg (Nat.not_lt_zero m)]
      exact (hit m i l e1 e2).at fun o q => (hs₁.2 _ (D.iz i (List.mem_of_getElem? e1)).1).trans q
/-- the tuple that was handed out is still there: a new one is made -/
theorem zip_anew {z TI TO T : Addr} {oT : Obj} {is ls : List Addr} {k : Nat} {rows : List (List Value)} {xs : List Value} {f1 : Bool} {Q : Fin → Shared → Prop} (D : ZAp z TI TO is ls)
    (hz : s.heap.get? z = some (zipO (rawInt T) f1 TI TO)) (hT : s.heap.get? T = some oT) (hTI : s.heap.get? TI = some (tupO (is.map Value.ref))) (hit : ItsAt is ls k s.heap)
    (hl : RowsAt ls rows s.heap) (hr : rows.length = is.length) (hx : ∀ (j : Nat) (r : List Value), rows[j]? = some r → ∃ x, xs[j]? = some x ∧ r[k]? = some x) (hxl : xs.length = is.length) (hsz : is.length ≤ 100)
    (hQ : ∀ h' : Heap, h'.get? z = some (zipO (rawInt T) true TI TO) → ItsAt is ls (k + 1) h' → h'.get? s.heap.objs.size = some (tupO xs) → h'.objs.size = s.heap.objs.size + 1 →
      (∀ c o, c ≠ z → c ∉ is → s.heap.get? c = some o → h'.get? c = some o) → Q (.done (.ret (.ref s.heap.objs.size))) { s with heap := h' }) :
    wpAny (model prog w) A (Builtin.«zip.__next__» ⟨[.ref z], []⟩) Q E s := by
  show wpAny _ _ (field (.ref z) 2 >>= _) _ _ _
  refine wpAny_bind (wpAny_field hz rfl (x := .bool false) rfl ?_)
  show wpAny _ _ (field (.ref z) 3 >>= _) _ _ _
  refine wpAny_bind (wpAny_field hz rfl (x := .ref TI) rfl ?_)
  refine wpAny_bind (wpAny_seqItems hTI rfl ?_)
  have ne : ((is.map Value.ref).toArray).isEmpty = false := by
    have := D.pos
    cases is with
    | nil => simp at this
    | cons i is => simp
  simp only [ne, Bool.false_eq_true, if_false]
  show wpAny _ _ (Builtin.SmallTypes.ownedTupleIsFree (.ref z) >>= _) _ _ _
  refine wpAny_bind (free_no hz hT fun h₁ hz₁ hs₁ => ?_)
  simp only [Bool.false_eq_true, if_false]
  refine wpAny_bind ?_
  rw [← Array.forIn_toList, show (is.map Value.ref).toArray.toList = is.map Value.ref by simp]
  refine wpAny_forIn_list _ (fun rest b s' => ∃ (j : Nat) (h' : Heap), b = (none, (xs.take j).toArray) ∧ s' = { s with heap := h' } ∧ rest = (is.map Value.ref).drop j ∧ j ≤ is.length ∧ h'.get? z = some (zipO (rawInt T) true TI TO) ∧
    (∀ (m : Nat) (i l : Addr), is[m]? = some i → ls[m]? = some l → h'.IsListIter i l (if m < j then k + 1 else k)) ∧ h'.objs.size = s.heap.objs.size ∧ ∀ c o, c ≠ z → c ∉ is → s.heap.get? c = some o → h'.get? c = some o) _ ?_ ?_ _ _ ?_
  · rintro x rest b s' ⟨j, h', rfl, rfl, hrest, hj, g1, g3, g4, g5⟩
    have hjn : j < is.length := by
      refine Nat.lt_of_not_le fun hle => ?_
      rw [List.drop_eq_nil_of_le (by rw [List.length_map]; exact hle)] at hrest
      cases hrest
    have hjl : j < ls.length := by rw [← D.len]; exact hjn
    have hjr : j < rows.length := by rw [hr]; exact hjn
    have ex : x = Value.ref is[j] ∧ rest = (is.map Value.ref).drop (j + 1) := by
      rw [List.drop_eq_getElem_cons (by rw [List.length_map]; exact hjn)] at hrest
      injection hrest with e1 e2
      refine ⟨?_, e2⟩
      rw [e1]
      simp
    obtain ⟨rfl, hrest2⟩ := ex
    have ei : is[j]? = some is[j] := List.getElem?_eq_getElem hjn
    have el : ls[j]? = some ls[j] := List.getElem?_eq_getElem hjl
    have er : rows[j]? = some rows[j] := List.getElem?_eq_getElem hjr
    have mi := D.iz is[j] (List.getElem_mem hjn)
    have ml := D.lz ls[j] (List.getElem_mem hjl)
    obtain ⟨y, y1, y2⟩ := hx j _ er
    have hit0 := g3 j _ _ ei el
    rw [if_neg (Nat.lt_irrefl j)] at hit0
    have hl0 := (hl j _ _ el er).keep fun o q => g5 ls[j] o ml.1 ml.2.2 q
    refine wpAny_bind (wpAny_holding ?_)
    show wpAny _ _ (Builtin.SmallTypes.nextOf (.ref is[j]) >>= _) _ _ _
    refine wpAny_bind (wpAny_nextOf_list_item hit0 hl0.isList (x := y) (by simpa using y2) fun h₂ hit2 sb => wpAny_pure ?_)
    have k2 : ∀ c o, c ≠ is[j] → h'.get? c = some o → h₂.get? c = some o := fun c o hc q => (sb.2 c hc).trans q
    refine wpAny_pure ⟨j + 1, h₂, ?_, rfl, hrest2, hjn, k2 _ _ (Ne.symm mi.1) g1, fun m i l e1 e2 => ?_, by rw [sb.1]; exact g4, fun c o c1 c3 q => k2 c o (fun z => c3 (z ▸ List.getElem_mem hjn)) (g5 c o c1 c3 q)⟩
    · have e1 : xs.take (j + 1) = xs.take j ++ [y] := by
        rw [List.take_add_one, y1]
        rfl
      rw [e1]
      simp
    · by_cases hm : m = j
      · subst hm
        rw [ei] at e1
        rw [el] at e2
        cases e1
        cases e2
        rw [if_pos (Nat.lt_succ_self m)]
        exact hit2
      · have z := g3 m i l e1 e2
        have hne : i ≠ is[j] := fun q => by
          obtain ⟨hm1, hm2⟩ := List.getElem?_eq_some_iff.mp e1
          exact hm ((List.getElem_inj D.nd).mp (hm2.trans q))
        have e4 : (m < j + 1) = (m < j) := propext ⟨fun q => by omega, fun q => by omega⟩
        simp only [e4]
        exact z.at fun o q => k2 _ o hne q
  · rintro b s' ⟨j, h', rfl, rfl, hrest, hj, g1, g3, g4, g5⟩
    have hjn : j = is.length := by
      refine Nat.le_antisymm hj (Nat.le_of_not_lt fun hlt => ?_)
      rw [List.drop_eq_getElem_cons (by rw [List.length_map]; exact hlt)] at hrest
      cases hrest
    subst hjn
    have exs : (xs.take is.length).toArray.toList = xs := by
      rw [List.take_of_length_le (by rw [hxl]; exact Nat.le_refl _)]
    show wpAny _ _ (newTuple (xs.take is.length).toArray.toList >>= _) _ _ _
    rw [exs]
    refine wpAny_bind (wpAny_newTuple ?_ (by rw [hxl, sizeLine_eq]; omega))
    have kp : ∀ c o, h'.get? c = some o → (h'.push (tupO xs)).get? c = some o := fun c o q => Heap.get?_push_of_some _ q
    have hT : (h'.push (tupO xs)).get? h'.objs.size = some (tupO xs) := Heap.get?_push_size _ rfl
    have hz8 : (h'.push (tupO xs)).objs.size = h'.objs.size + 1 := Heap.size_push ..
    refine wpAny_pure ?_
    show Q (.done (.ret (.ref h'.objs.size))) _
    rw [g4] at hT hz8 ⊢
    refine hQ _ (kp _ _ g1) (fun m i l e1 e2 => ?_) hT hz8 fun c o c1 c3 q => kp c o (g5 c o c1 c3 q)
    have q := g3 m i l e1 e2
    rw [if_pos (List.getElem?_eq_some_iff.mp e1).1] at q
    exact q.at fun o q => kp i o q
  · refine ⟨0, h₁, rfl, rfl, by simp, Nat.zero_le _, hz₁, fun m i l e1 e2 => ?_, hs₁.1, fun c o c1 c3 q => (hs₁.2 c c1).trans q⟩
    rw [if_neg (Nat.not_lt_zero m)]
    exact (hit m i l e1 e2).at fun o q => (hs₁.2 _ (D.iz i (List.mem_of_getElem? e1)).1).trans q
/-- the first list is at its end -/
theorem zip_end {z TI TO : Addr} {is ls : List Addr} {k : Nat} {rows : List (List Value)} {f0 : Value} {f1 : Bool} {Q : Fin → Shared → Prop} (hh : A.handled = none) (D : ZAp z TI TO is ls)
    (hz : s.heap.get? z = some (zipO f0 f1 TI TO)) (hf : f0 = .none ∨ ∃ T : Addr, f0 = rawInt T) (hTI : s.heap.get? TI = some (tupO (is.map Value.ref))) (hit : ItsAt is ls k s.heap)
    (hl : RowsAt ls rows s.heap) (hr : rows.length = is.length) (hx : ∀ r, rows[0]? = some r → r[k]? = none)
    (hE : ∀ h' e, (∀ c o, c ≠ z → c ∉ is → s.heap.get? c = some o → h'.get? c = some o) → (∃ o, h'.get? e = some o ∧ o.cls = .type "StopIteration") → E (.ref e) { s with heap := h' }) :
    wpAny (model prog w) A (Builtin.«zip.__next__» ⟨[.ref z], []⟩) Q E s := by
  have h0 : 0 < is.length := D.pos
  have h0l : 0 < ls.length := by rw [← D.len]; exact h0
  have h0r : 0 < rows.length := by rw [hr]; exact h0
  have ei : is[0]? = some is[0] := List.getElem?_eq_getElem h0
  have el : ls[0]? = some ls[0] := List.getElem?_eq_getElem h0l
  have er : rows[0]? = some rows[0] := List.getElem?_eq_getElem h0r
  have mi := D.iz is[0] (List.getElem_mem h0)
  have ml := D.lz ls[0] (List.getElem_mem h0l)
  show wpAny _ _ (field (.ref z) 2 >>= _) _ _ _
  refine wpAny_bind (wpAny_field hz rfl (x := .bool false) rfl ?_)
  show wpAny _ _ (field (.ref z) 3 >>= _) _ _ _
  refine wpAny_bind (wpAny_field hz rfl (x := .ref TI) rfl ?_)
  refine wpAny_bind (wpAny_seqItems hTI rfl ?_)
  obtain ⟨i0, ir, eis⟩ : ∃ i0 ir, is = i0 :: ir := by
    cases is with
    | nil => simp at h0
    | cons i is => exact ⟨i, is, rfl⟩
  have ei0 : is[0] = i0 := by simp [eis]
  have ne : ((is.map Value.ref).toArray).isEmpty = false := by simp [eis]
  simp only [ne, Bool.false_eq_true, if_false]
  show wpAny _ _ (Builtin.SmallTypes.ownedTupleIsFree (.ref z) >>= _) _ _ _
  have both : FreeT f0 s.heap ∨ ∃ (T : Addr) (o : Obj), f0 = rawInt T ∧ s.heap.get? T = some o := by
    rcases hf with e | ⟨T, e⟩
    · exact .inl (.inl e)
    · cases q : s.heap.get? T with
      | none => exact .inl (.inr ⟨T, e, q⟩)
      | some o => exact .inr ⟨T, o, e, q⟩
  have it0 := hit 0 _ _ ei el
  have l0 := hl 0 _ _ el er
  rcases both with hf | ⟨T, o, rfl, hT⟩
  · refine wpAny_bind (free_yes hz hf ?_)
    simp only [if_true]
    refine wpAny_bind (wpAny_rule ?_)
    refine wpAny_bind (wpAny_field hz rfl (x := .ref TO) rfl ?_)
    refine wpAny_bind (wpAny_setField_rec hz (by simp) fun h₁ hz₁ hs₁ => ?_)
    replace hz₁ : h₁.get? z = some (zipO .ellipsis f1 TI TO) := hz₁
    refine wpAny_bind ?_
    have eL : (is.map Value.ref).toArray.toList.zipIdx = (Value.ref is[0], 0) :: (ir.map Value.ref).zipIdx 1 := by simp [eis]
    rw [eL, List.forIn_cons]
    refine wpAny_bind (wpAny_bind (wpAny_onRaise ?_))
    show wpAny _ _ (Builtin.SmallTypes.nextOf (.ref is[0]) >>= _) _ _ _
    refine wpAny_bind (wpAny_nextOf_list_end hh (it0.at fun o q => (hs₁.2 _ mi.1).trans q) (l0.keep fun o q => (hs₁.2 _ ml.1).trans q).isList (by simpa using hx _ er) fun h₂ e hs₂ he => ?_)
    obtain ⟨oe, hoe, hce⟩ := he
    have hz₂ : h₂.get? z = some (zipO .ellipsis f1 TI TO) := hs₂ _ _ (Ne.symm mi.1) hz₁
    have hez : e ≠ z := fun x => by subst x; rw [hz₂] at hoe; cases hoe; simp at hce
    refine wpAny_setField_rec hz₂ (by simp) fun h₃ _ hs₃ => hE h₃ e (fun c o c1 c3 x => (hs₃.2 c c1).trans (hs₂ _ _ (fun q => c3 (q ▸ List.getElem_mem h0)) ((hs₁.2 c c1).trans x))) ⟨oe, (hs₃.2 _ hez).trans hoe, hce⟩
  · refine wpAny_bind (free_no hz hT fun h₁ hz₁ hs₁ => ?_)
    simp only [Bool.false_eq_true, if_false]
    refine wpAny_bind ?_
    rw [← Array.forIn_toList]
    have eL : (is.map Value.ref).toArray.toList = Value.ref is[0] :: ir.map Value.ref := by simp [eis]
    rw [eL, List.forIn_cons]
    refine wpAny_bind (wpAny_bind (wpAny_holding ?_))
    show wpAny _ _ (Builtin.SmallTypes.nextOf (.ref is[0]) >>= _) _ _ _
    refine wpAny_bind (wpAny_nextOf_list_end hh (it0.at fun o q => (hs₁.2 _ mi.1).trans q) (l0.keep fun o q => (hs₁.2 _ ml.1).trans q).isList (by simpa using hx _ er) fun h₂ e hs₂ he => ?_)
    exact hE h₂ e (fun c o c1 c3 x => hs₂ _ _ (fun q => c3 (q ▸ List.getElem_mem h0)) ((hs₁.2 c c1).trans x)) he
end
end G

namespace G
open PySem PySem.Spec PyProof.Rows L2
abbrev zIs (a0 n : Nat) : List Addr := (List.range n).map fun m => a0 + m
section
variable {prog : Program} {w : World} {A : Around} {E : Value → Shared → Prop} {s : Shared}
theorem newClass_zip (us : List Value) : Builtin.SmallTypes.newClass "zip" ⟨.type "zip" :: us, []⟩ = pure (.type "zip", us) := by
  have hsub := sub_zip
  unfold Builtin.SmallTypes.newClass
  simp only [isType, hsub, pure_bind, Bool.not_true, Bool.false_eq_true, if_false]
theorem zIs_at {a0 n j i : Nat} (h : (zIs a0 n)[j]? = some i) : i = a0 + j ∧ j < n := by
  rw [List.getElem?_map] at h
  cases e : (List.range n)[j]? with
  | none =>
    rw [e] at h
    cases h
  | some m =>
    rw [e] at h
    obtain ⟨h1, h2⟩ := List.getElem?_eq_some_iff.mp e
    rw [List.getElem_range] at h2
    have h3 : a0 + m = i := Option.some.inj h
    rw [List.length_range] at h1
    exact ⟨by omega, h1⟩
theorem zip_made {ls : List Addr} {rows : List (List Value)} {Q : Value → Shared → Prop} (hlr : ls.length = rows.length) (hl : RowsAt ls rows s.heap) (hsz : ls.length ≤ 100)
    (hQ : ∀ h' : Heap, h'.get? (s.heap.objs.size + ls.length + 2) = some (zipO .none false (s.heap.objs.size + ls.length) (s.heap.objs.size + ls.length + 1)) → h'.get? (s.heap.objs.size + ls.length) = some (tupO ((zIs s.heap.objs.size ls.length).map Value.ref)) →
      h'.get? (s.heap.objs.size + ls.length + 1) = some (tupO (List.replicate ls.length .none)) → ItsAt (zIs s.heap.objs.size ls.length) ls 0 h' → h'.objs.size = s.heap.objs.size + ls.length + 3 → (∀ c o, s.heap.get? c = some o → h'.get? c = some o) →
      Q (.ref (s.heap.objs.size + ls.length + 2)) { s with heap := h' }) :
    wpAny (model prog w) A (Builtin.«zip.__new__» ⟨.type "zip" :: ls.map Value.ref, []⟩) (fun f s' => ∃ v, f = .done (.ret v) ∧ Q v s') E s := by
  unfold Builtin.«zip.__new__»
  rw [newClass_zip]
  refine wpAny_bind (wpAny_pure ?_)
  show wpAny _ _ (Builtin.SmallTypes.iterAll (ls.map Value.ref) >>= _) _ _ _
  refine wpAny_bind ?_
  unfold Builtin.SmallTypes.iterAll
  refine wpAny_bind ?_
  refine wpAny_forIn_list _ (fun rest b s' => ∃ (j : Nat) (h' : Heap), b = ((zIs s.heap.objs.size j).map Value.ref).toArray ∧ s' = { s with heap := h' } ∧ rest = (ls.map Value.ref).drop j ∧ j ≤ ls.length ∧
    (∀ (m : Nat) (l : Addr), m < j → ls[m]? = some l → h'.IsListIter (s.heap.objs.size + m) l 0) ∧ h'.objs.size = s.heap.objs.size + j ∧ ∀ c o, s.heap.get? c = some o → h'.get? c = some o) _ ?_ ?_ _ _ ?_
  · rintro x rest b s' ⟨j, h', rfl, rfl, hrest, hj, g3, g4, g5⟩
    have hjn : j < ls.length := by
      refine Nat.lt_of_not_le fun hle => ?_
      rw [List.drop_eq_nil_of_le (by rw [List.length_map]; exact hle)] at hrest
      cases hrest
    have ex : x = Value.ref ls[j] ∧ rest = (ls.map Value.ref).drop (j + 1) := by
      rw [List.drop_eq_getElem_cons (by rw [List.length_map]; exact hjn)] at hrest
      injection hrest with e1 e2
      refine ⟨?_, e2⟩
      rw [e1]
      simp
    obtain ⟨rfl, hrest2⟩ := ex
    have hjr : j < rows.length := by rw [← hlr]; exact hjn
    have lj := (hl j _ _ (List.getElem?_eq_getElem hjn) (List.getElem?_eq_getElem hjr)).keep fun o q => g5 _ o q
    refine wpAny_bind (wpAny_holding (wpAny_pyIter_list (s := { s with heap := h' }) lj.isList (wpAny_pure ?_)))
    have kp : ∀ c o, h'.get? c = some o → (h'.push { cls := .type "list_iterator", data := .fields #[.ref ls[j], .int 0 0] }).get? c = some o := fun c o q => Heap.get?_push_of_some _ q
    refine ⟨j + 1, _, ?_, rfl, hrest2, hjn, fun m l hm e => ?_, ?_, fun c o q => kp c o (g5 c o q)⟩
    · have ez : zIs s.heap.objs.size (j + 1) = zIs s.heap.objs.size j ++ [s.heap.objs.size + j] := by
        unfold zIs
        rw [List.range_succ, List.map_append]
        rfl
      rw [ez, List.map_append, ← g4]
      simp
    · by_cases hmj : m = j
      · subst hmj
        rw [List.getElem?_eq_getElem hjn] at e
        cases e
        rw [← g4]
        exact ⟨_, Heap.get?_push_size _ rfl, rfl, rfl⟩
      · exact (g3 m l (by omega) e).at fun o q => kp _ o q
    · rw [Heap.size_push, g4]
      omega
  · rintro b s' ⟨j, h', rfl, rfl, hrest, hj, g3, g4, g5⟩
    have hjn : j = ls.length := by
      refine Nat.le_antisymm hj (Nat.le_of_not_lt fun hlt => ?_)
      rw [List.drop_eq_getElem_cons (by rw [List.length_map]; exact hlt)] at hrest
      cases hrest
    subst hjn
    refine wpAny_pure ?_
    have e1 : (((zIs s.heap.objs.size ls.length).map Value.ref).toArray).toList = (zIs s.heap.objs.size ls.length).map Value.ref := by simp
    rw [e1]
    have hlen : ((zIs s.heap.objs.size ls.length).map Value.ref).length = ls.length := by simp
    refine wpAny_bind (wpAny_newTuple ?_ (by rw [hlen, sizeLine_eq]; omega))
    refine wpAny_bind (wpAny_newTuple ?_ (by rw [List.length_map, hlen, sizeLine_eq]; omega))
    simp only [Builtin.SmallTypes.newRecord, Builtin.SmallTypes.ownedTupleFields]
    show wpAny _ _ (newObj (.type "zip") (.fields _) >>= _) _ _ _
    refine wpAny_bind (wpAny_newObj_type ?_)
    refine wpAny_pure ⟨_, rfl, ?_⟩
    have e2 : ((zIs s.heap.objs.size ls.length).map Value.ref).map (fun _ => Value.none) = List.replicate ls.length .none := by
      rw [List.map_const', hlen]
    have z1 : (h'.push (tupO ((zIs s.heap.objs.size ls.length).map Value.ref))).objs.size = s.heap.objs.size + ls.length + 1 := by rw [Heap.size_push, g4]
    have z2 : ((h'.push (tupO ((zIs s.heap.objs.size ls.length).map Value.ref))).push (tupO (((zIs s.heap.objs.size ls.length).map Value.ref).map fun _ => Value.none))).objs.size = s.heap.objs.size + ls.length + 2 := by rw [Heap.size_push, z1]
    have goal := hQ (((h'.push (tupO ((zIs s.heap.objs.size ls.length).map Value.ref))).push (tupO (((zIs s.heap.objs.size ls.length).map Value.ref).map fun _ => Value.none))).push
      (zipO .none false h'.objs.size (h'.push (tupO ((zIs s.heap.objs.size ls.length).map Value.ref))).objs.size)) ?_ ?_ ?_ ?_ ?_ ?_
    · show Q (.ref ((h'.push (tupO ((zIs s.heap.objs.size ls.length).map Value.ref))).push (tupO (((zIs s.heap.objs.size ls.length).map Value.ref).map fun _ => Value.none))).objs.size) _
      rw [z2]
      exact goal
    · rw [← z2, ← z1, ← g4]
      exact Heap.get?_push_size _ rfl
    · rw [← g4]
      exact Heap.get?_push_of_some _ (Heap.get?_push_of_some _ (Heap.get?_push_size _ rfl))
    · rw [← z1, ← e2]
      exact Heap.get?_push_of_some _ (Heap.get?_push_size _ rfl)
    · intro m i l e1 e2
      obtain ⟨rfl, hm⟩ := zIs_at e1
      exact (g3 m l hm e2).at fun o q => Heap.get?_push_of_some _ (Heap.get?_push_of_some _ (Heap.get?_push_of_some _ q))
    · rw [Heap.size_push, z2]
    · exact fun c o q => Heap.get?_push_of_some _ (Heap.get?_push_of_some _ (Heap.get?_push_of_some _ (g5 c o q)))
  · exact ⟨0, s.heap, by simp, rfl, rfl, Nat.zero_le _, fun m l hm => absurd hm (Nat.not_lt_zero m), rfl, fun c o q => q⟩
theorem zip_apart {a0 : Nat} {ls : List Addr} (hp : 0 < ls.length) (hl : ∀ l ∈ ls, l < a0) : ZAp (a0 + ls.length + 2) (a0 + ls.length) (a0 + ls.length + 1) (zIs a0 ls.length) ls where
  len := by simp
  pos := by simpa using hp
  TIz := show (a0 + ls.length : Nat) ≠ a0 + ls.length + 2 by omega
  TOz := show (a0 + ls.length + 1 : Nat) ≠ a0 + ls.length + 2 by omega
  TIO := show (a0 + ls.length : Nat) ≠ a0 + ls.length + 1 by omega
  iz := fun i hi => by
    obtain ⟨m, hm, e⟩ := List.mem_map.mp hi
    have hm := List.mem_range.mp hm
    subst e
    have q := Nat.add_lt_add_left hm a0
    have q : (a0 + m : Nat) < a0 + ls.length := q
    exact ⟨Nat.ne_of_lt (Nat.lt_succ_of_lt (Nat.lt_succ_of_lt q)), Nat.ne_of_lt q, Nat.ne_of_lt (Nat.lt_succ_of_lt q)⟩
  lz := fun l h => by
    have this : (l : Nat) < a0 := hl l h
    refine ⟨Nat.ne_of_lt (Nat.lt_add_right 2 (Nat.lt_add_right ls.length this)), Nat.ne_of_lt (Nat.lt_add_right 1 (Nat.lt_add_right ls.length this)), fun hi => ?_⟩
    obtain ⟨m, hm, e⟩ := List.mem_map.mp hi
    have e : a0 + m = l := e
    rw [← e] at this
    exact Nat.not_lt.mpr (Nat.le_add_right a0 m) this
  nd := by
    refine List.pairwise_map.mpr (List.nodup_range.imp fun {a b} h => ?_)
    show (a0 + a : Nat) ≠ a0 + b
    omega
end
end G

namespace G
open PySem PySem.Spec PyProof.Rows L2
abbrev RowsH (H : Hp) (ls : List Addr) (rs : List (List V)) : Prop := Paired (fun (a : Addr) r => H a = some (HO.lst r)) ls rs
/-- the lists at ls as they stand at each turn, the items in a new tuple -/
def ItzN (ls : List Addr) : It :=
  ⟨fun i H => ∃ rs, RowsH H ls rs ∧ ∀ r ∈ rs, i < r.length,
    fun i H v H' => ∃ T vs, v = .ref T ∧ H T = none ∧ H' = upd H T (.tup vs) ∧ ∀ rs, RowsH H ls rs → Paired (fun (r : List V) v => r[i]? = some v) rs vs,
    fun i H => ∃ rs, RowsH H ls rs ∧ ∀ r ∈ rs, r.length ≤ i⟩
section
variable {X : Cx}
theorem rowsV {pins : List (Addr × Obj)} {σ : L2.St} {H : Hp} {s : Shared} (I : Inv X pins σ H s) : ∀ {as : List Addr} {rows : List (List V)}, RowsH H as rows →
    ∃ rv : List (List Value), Paired Vals rows rv ∧ as.length = rv.length ∧ RowsAt as rv s.heap
  | [], _, .nil => ⟨[], .nil, rfl, fun j a r h => by simp at h⟩
  | a :: as, r :: rows, .cons h t => by
    obtain ⟨rv, h1, h2, h4⟩ := rowsV I t
    obtain ⟨z, its, n, g1, g2, g3⟩ := I.lstM h
    refine ⟨its :: rv, .cons g1 h1, by rw [List.length_cons, List.length_cons, h2], fun j a' r' e1 e2 => ?_⟩
    cases j with
    | zero =>
      have e1 : a = a' := Option.some.inj e1
      have e2 : its = r' := Option.some.inj e2
      subst e1 e2
      exact ⟨n, g3⟩
    | succ j => exact h4 j a' r' (by simpa using e1) (by simpa using e2)
theorem col_of {i : Nat} : ∀ {rs : List (List V)} {rv : List (List Value)}, Paired Vals rs rv → (∀ r ∈ rs, i < r.length) →
    ∃ vs xs, Vals vs xs ∧ Paired (fun (r : List V) v => r[i]? = some v) rs vs ∧ xs.length = rv.length ∧ ∀ (j : Nat) (r : List Value), rv[j]? = some r → ∃ x, xs[j]? = some x ∧ r[i]? = some x
  | [], _, .nil, _ => ⟨[], [], .nil, .nil, rfl, fun j r h => by simp at h⟩
  | r :: rs, _, .cons h t, hi => by
    obtain ⟨vs, xs, h1, h2, h3, h4⟩ := col_of t fun r hr => hi r (List.mem_cons_of_mem _ hr)
    have hir := hi r List.mem_cons_self
    have e0 : r[i]? = some r[i] := List.getElem?_eq_getElem hir
    obtain ⟨u, hu, ru⟩ := Vals.get h e0
    refine ⟨r[i] :: vs, u :: xs, .cons ru h1, .cons e0 h2, by rw [List.length_cons, List.length_cons, h3], fun j r' e => ?_⟩
    cases j with
    | zero =>
      have e := Option.some.inj e
      subst e
      exact ⟨u, rfl, hu⟩
    | succ j =>
      obtain ⟨x, e1, e2⟩ := h4 j r' (by simpa using e)
      exact ⟨x, by simpa using e1, e2⟩
theorem rows_inj {H : Hp} : ∀ {ls : List Addr} {rs rs' : List (List V)}, RowsH H ls rs → RowsH H ls rs' → rs = rs'
  | [], _, _, .nil, .nil => rfl
  | _ :: _, _, _, .cons a b, .cons c d => by
    have e := a.symm.trans c
    injection e with e
    injection e with e
    rw [e, rows_inj b d]
/-- how the walk stands -/
def ZSt (z TI TO : Addr) (is ls : List Addr) (i : Nat) (h : Heap) : Prop :=
  ∃ (f0 : Value) (f1 : Bool) (ws : List Value), h.get? z = some (zipO f0 f1 TI TO) ∧ (f0 = .none ∨ ∃ T : Addr, f0 = rawInt T) ∧ h.get? TI = some (tupO (is.map Value.ref)) ∧ h.get? TO = some (tupO ws) ∧ ws.length = is.length ∧ ItsAt is ls i h
theorem ZSt.there {z TI TO : Addr} {is ls : List Addr} {i : Nat} {h : Heap} (D : ZAp z TI TO is ls) (st : ZSt z TI TO is ls i h) {c : Addr} (hc : c ∈ z :: TI :: TO :: is) : ∃ o, h.get? c = some o ∧ ∀ v, o.data ≠ .cell v := by
  obtain ⟨f0, f1, ws, hz, _, hTI, hTO, _, hit⟩ := st
  rcases List.mem_cons.mp hc with q | hc
  · rw [q]; exact ⟨_, hz, fun v q => nomatch q⟩
  rcases List.mem_cons.mp hc with q | hc
  · rw [q]; exact ⟨_, hTI, fun v q => nomatch q⟩
  rcases List.mem_cons.mp hc with q | hc
  · rw [q]; exact ⟨_, hTO, fun v q => nomatch q⟩
  obtain ⟨j, hj, e⟩ := List.mem_iff_getElem.mp hc
  have e1 : is[j]? = some c := by rw [List.getElem?_eq_getElem hj, e]
  have hl : j < ls.length := by rw [← D.len]; exact hj
  obtain ⟨o, e2, _, d⟩ := hit j _ _ e1 (List.getElem?_eq_getElem hl)
  exact ⟨o, e2, fun v q => by rw [d] at q; cases q⟩
theorem pyNext_zipN {prog : Program} {w : World} {A : Around} {E : Value → Shared → Prop} {s : Shared} {z TI TO : Addr} {is ls : List Addr} {k : Nat} {rows : List (List Value)} {xs : List Value} {Q : Option Value → Shared → Prop} (D : ZAp z TI TO is ls)
    (st : ZSt z TI TO is ls k s.heap) (hl : RowsAt ls rows s.heap) (hr : rows.length = is.length) (hx : ∀ (j : Nat) (r : List Value), rows[j]? = some r → ∃ x, xs[j]? = some x ∧ r[k]? = some x) (hxl : xs.length = is.length) (hsz : is.length ≤ 100)
    (hQ : ∀ h' : Heap, ZSt z TI TO is ls (k + 1) h' → h'.get? s.heap.objs.size = some (tupO xs) → (∀ c o, c ∉ z :: TI :: TO :: is → s.heap.get? c = some o → h'.get? c = some o) → Q (some (.ref s.heap.objs.size)) { s with heap := h' }) :
    wpAny (model prog w) A (pyNext (.ref z)) Q E s := by
  obtain ⟨f0, f1, ws, hz, hf, hTI, hTO, hws, hit⟩ := st
  have hT : s.TypeIs (.ref z) "zip" := ⟨_, hz, rfl⟩
  have hTz : TI ≠ z := D.TIz
  unfold pyNext
  have both : FreeT f0 s.heap ∨ ∃ (T : Addr) (o : Obj), f0 = rawInt T ∧ s.heap.get? T = some o := by
    rcases hf with e | ⟨T, e⟩
    · exact .inl (.inl e)
    · cases q : s.heap.get? T with
      | none => exact .inl (.inr ⟨T, e, q⟩)
      | some o => exact .inr ⟨T, o, e, q⟩
  have kTI : ∀ h' : Heap, (∀ c o, c ≠ z → c ≠ TO → c ∉ is → s.heap.get? c = some o → h'.get? c = some o) → h'.get? TI = some (tupO (is.map Value.ref)) := fun h' hk =>
    hk TI _ D.TIz D.TIO (fun hm => (D.iz TI hm).2.1 rfl) hTI
  refine wpAny_bind (wpAny_attempt (wpAny_callSpecial?_slot (name := Str.ofString "__next__") hT F.slot_zip_next (wpAny_call_entry F.slot_zip_next hT F.entry_zip_next ?_ (F.args_zip_next_1 _))))
  rcases both with hf | ⟨T, o, e, hTo⟩
  · refine zip_fill D hz hf hTI hTO hws hit hl hr hx hxl hsz fun h' a1 a2 a3 a4 a5 a6 => ⟨_, rfl, wpAny_pure (hQ h' ⟨_, _, xs, a1, .inr ⟨_, rfl⟩, kTI h' a6, a2, hxl, a3⟩ a4 fun c o hc q => ?_)⟩
    have hc' : c ≠ z ∧ c ≠ TI ∧ c ≠ TO ∧ c ∉ is := by simpa using hc
    exact a6 c o hc'.1 hc'.2.2.1 hc'.2.2.2 q
  · subst e
    refine zip_anew D hz hTo hTI hit hl hr hx hxl hsz fun h' a1 a3 a4 a5 a6 => ⟨_, rfl, wpAny_pure (hQ h' ⟨_, _, ws, a1, .inr ⟨_, rfl⟩, kTI h' fun c o c1 _ c3 q => a6 c o c1 c3 q, ?_, hws, a3⟩ a4 fun c o hc q => ?_)⟩
    · exact a6 TO _ D.TOz (fun hm => (D.iz TO hm).2.2 rfl) hTO
    · have hc' : c ≠ z ∧ c ≠ TI ∧ c ≠ TO ∧ c ∉ is := by simpa using hc
      exact a6 c o hc'.1 hc'.2.2.2 q
theorem pyNext_zipN_end {prog : Program} {w : World} {A : Around} {E : Value → Shared → Prop} {s : Shared} {z TI TO : Addr} {is ls : List Addr} {k : Nat} {rows : List (List Value)} {Q : Option Value → Shared → Prop} (hh : A.handled = none) (D : ZAp z TI TO is ls)
    (st : ZSt z TI TO is ls k s.heap) (hl : RowsAt ls rows s.heap) (hr : rows.length = is.length) (hx : ∀ r, rows[0]? = some r → r[k]? = none)
    (hQ : ∀ h' : Heap, (∀ c o, c ∉ z :: TI :: TO :: is → s.heap.get? c = some o → h'.get? c = some o) → Q none { s with heap := h' }) :
    wpAny (model prog w) A (pyNext (.ref z)) Q E s := by
  obtain ⟨f0, f1, ws, hz, hf, hTI, hTO, hws, hit⟩ := st
  have hT : s.TypeIs (.ref z) "zip" := ⟨_, hz, rfl⟩
  unfold pyNext
  refine wpAny_bind (wpAny_attempt (wpAny_callSpecial?_slot (name := Str.ofString "__next__") hT F.slot_zip_next (wpAny_call_entry F.slot_zip_next hT F.entry_zip_next (zip_end hh D hz hf hTI hit hl hr hx fun h' e hk he => ?_) (F.args_zip_next_1 _))))
  obtain ⟨o, ho, hc⟩ := he
  refine wpAny_bind (wpAny_isInstance (T := "StopIteration") (b := true) ⟨o, ho, hc⟩ isSubtype_stop ?_)
  refine wpAny_pure (hQ _ fun c o hc q => ?_)
  have hc' : c ≠ z ∧ c ≠ TI ∧ c ≠ TO ∧ c ∉ is := by simpa using hc
  exact hk c o hc'.1 hc'.2.2.2 q
theorem turn_zipN {P : Program} {w : World} {K : PySem.W.Frag} {x : Str} {p : Pos} {z TI TO : Addr} {is ls : List Addr} (D : ZAp z TI TO is ls) (hsz : is.length ≤ 100) :
    Turn P w K (.Name x p) (ItzN ls) (z :: TI :: TO :: is) z (ZSt z TI TO is ls) where
  mem := List.mem_cons_self
  obj := fun i h st c hc => st.there D hc
  keep := fun i h h' st k => by
    obtain ⟨f0, f1, ws, hz, hf, hTI, hTO, hws, hit⟩ := st
    refine ⟨f0, f1, ws, k z (by simp) _ hz, hf, k TI (by simp) _ hTI, k TO (by simp) _ hTO, hws, fun j i l e1 e2 => (hit j i l e1 e2).at fun o q => k i ?_ o q⟩
    have := List.mem_of_getElem? e1
    simp [this]
  item := by
    intro X hP hw hK hc i pins s σ H E I hf st hg
    subst hP hw hK
    obtain ⟨rs, hrs, hlen⟩ := hg
    obtain ⟨rv, r1, r2, r3⟩ := rowsV I hrs
    obtain ⟨vs, xs, c1, c2, c3, c4⟩ := col_of r1 hlen
    have hri : rv.length = is.length := by rw [← r2, D.len]
    have hxl : xs.length = is.length := by rw [c3, hri]
    have hvl : vs.length = xs.length := Vals.length c1
    refine pyNext_zipN D st r3 hri c4 hxl hsz fun h' st' hT hk => ⟨_, rfl, ?_⟩
    have go : ∀ {Q : Unit → Shared → Prop} {s' : Shared} {A : Around}, Q () s' → wpAny (model X.prog X.w) A (letOwnedTupleGo (.Name x p) (.ref z) (.ref s.heap.objs.size)) Q E s' := fun hQ => by
      unfold letOwnedTupleGo
      exact wpAny_pure hQ
    refine go ?_
    have new : ObjOk X.prog X.w (upd H s.heap.objs.size (.tup vs)) h' s.heap.objs.size (.tup vs) :=
      ⟨by rw [hvl, hxl, sizeLine_eq]; omega, xs, c1, ⟨_, hT, rfl, _, rfl⟩⟩
    have I1 : Inv X pins σ (upd H s.heap.objs.size (.tup vs)) { s with heap := h' } :=
      I.turnedNew (t' := s.toks) (ch := z :: TI :: TO :: is) (fun c o hb q => hk c o hb q) hf (Nat.le_refl _) new
    refine ⟨.ref s.heap.objs.size, _, I1, rfl, ⟨_, vs, rfl, I.hok.fresh (Nat.le_refl _), rfl, fun rs' h' => ?_⟩, st', fun c hcm => ?_⟩
    · rw [← rows_inj hrs h']
      exact c2
    · obtain ⟨o, ho, _⟩ := st.there D hcm
      rw [upd_ne (Nat.ne_of_lt (Heap.lt_size ho))]
      exact (hf c hcm).1
  done := by
    intro X hP hw hK hc i pins s σ H E I hf st hg
    subst hP hw hK
    obtain ⟨rs, hrs, hlen⟩ := hg
    obtain ⟨rv, r1, r2, r3⟩ := rowsV I hrs
    have hri : rv.length = is.length := by rw [← r2, D.len]
    refine pyNext_zipN_end (I.ok.hd hc) D st r3 hri (fun r e => ?_) fun h' hk => ⟨rfl, I.turnedL (t' := s.toks) (ch := z :: TI :: TO :: is) hk hf⟩
    cases r1 with
    | nil => cases e
    | cons a b =>
      have e : _ = r := Option.some.inj e
      subst e
      have := hlen _ List.mem_cons_self
      rw [a.length] at this
      exact List.getElem?_eq_none this
  self := fun A i s Q E st h => by
    obtain ⟨f0, f1, ws, hz, _⟩ := st
    have hT : s.TypeIs (.ref z) "zip" := ⟨_, hz, rfl⟩
    refine wpAny_pyIter_slot hT F.slot_zip_iter (wpAny_call_entry F.slot_zip_iter hT F.entry_zip_iter ?_ (F.args_zip_iter_1 _))
    exact wpAny_pure (Q := fun f s' => _) ⟨_, rfl, "zip", _, hT, F.slot_zip_next.lookup, h⟩
/-! ### the call -/
theorem typeCall_zip {us : List Value} (h1 : 0 < us.length) (h8 : us.length ≤ 8) : checkTypeCall "zip" ⟨us, []⟩ = pure () := by
  match us, h1, h8 with
  | [a], _, _ => kernel_rfl
  | [a, b], _, _ => kernel_rfl
  | [a, b, c], _, _ => kernel_rfl
  | [a, b, c, d], _, _ => kernel_rfl
  | [a, b, c, d, e], _, _ => kernel_rfl
  | [a, b, c, d, e, f], _, _ => kernel_rfl
  | [a, b, c, d, e, f, g], _, _ => kernel_rfl
  | [a, b, c, d, e, f, g, i], _, _ => kernel_rfl
theorem newCall_zip {us : List Value} (h1 : 0 < us.length) (h8 : us.length ≤ 8) : checkBuiltinCall "zip.__new__" ⟨.type "zip" :: us, []⟩ = pure () := by
  match us, h1, h8 with
  | [a], _, _ => kernel_rfl
  | [a, b], _, _ => kernel_rfl
  | [a, b, c], _, _ => kernel_rfl
  | [a, b, c, d], _, _ => kernel_rfl
  | [a, b, c, d, e], _, _ => kernel_rfl
  | [a, b, c, d, e, f], _, _ => kernel_rfl
  | [a, b, c, d, e, f, g], _, _ => kernel_rfl
  | [a, b, c, d, e, f, g, i], _, _ => kernel_rfl
theorem initOk_zip (obj : Value) {us : List Value} (h1 : 0 < us.length) (h8 : us.length ≤ 8) : argsOk "object.__init__" ⟨obj :: us, []⟩ := by
  unfold argsOk
  rw [signature?_of (id := "object.__init__") (n := ['_', '_', 't', 'i', 'n', 'i', '_', '_']) (o := ['t', 'c', 'e', 'j', 'b', 'o']) (by kernel_rfl) F.owner_object]
  match us, h1, h8 with
  | [a], _, _ => kernel_rfl
  | [a, b], _, _ => kernel_rfl
  | [a, b, c], _, _ => kernel_rfl
  | [a, b, c, d], _, _ => kernel_rfl
  | [a, b, c, d, e], _, _ => kernel_rfl
  | [a, b, c, d, e, f], _, _ => kernel_rfl
  | [a, b, c, d, e, f, g], _, _ => kernel_rfl
  | [a, b, c, d, e, f, g, i], _, _ => kernel_rfl
end
end G

namespace G
open PySem PySem.Spec PyProof.Rows L2
section
variable {X : Cx} {ρ : List SD} {M : Mem} {Q : Kn} {pos p sp : Pos} {e : Expr}
theorem meets_zipN {ls : List Addr} {rows : List (List Value)} (hlr : ls.length = rows.length) (hsz : ls.length ≤ 100) :
    Meets (Builtin.«zip.__new__» ⟨.type "zip" :: ls.map Value.ref, []⟩) (fun _ R s => RowsAt ls rows s.heap ∧ ∀ h' : Heap, ZSt (s.heap.objs.size + ls.length + 2) (s.heap.objs.size + ls.length) (s.heap.objs.size + ls.length + 1) (zIs s.heap.objs.size ls.length) ls 0 h' →
      h'.objs.size = s.heap.objs.size + ls.length + 3 → (∀ c o, s.heap.get? c = some o → h'.get? c = some o) → R (.ok (.ret (.ref (s.heap.objs.size + ls.length + 2)))) { s with heap := h' }) :=
  .of_wp fun prog w A R s h => zip_made hlr h.1 hsz fun h' a1 a2 a3 a4 a5 a6 => h.2 h' ⟨_, _, _, a1, .inl rfl, a2, a3, by simp, a4⟩ a5 a6
def iZipS (te : TE) : TI := fun σ H R => te σ H fun y H1 => ∃ (a : Addr) (ls : List Addr) (rs : List (List V)), y = .ref a ∧ H1 a = some (.lst (ls.map V.ref)) ∧ RowsH H1 ls rs ∧ 0 < ls.length ∧ ls.length ≤ 8 ∧ R (ItzN ls) H1
theorem looks_type {M : Model} (h : Heap) (T : String) : ∃ k, (k = Keeper.frame ∨ k = Keeper.machine ∨ k = Keeper.boundFrame) ∧ PySem.W.Looks M h (keeperOf (.type T)) k :=
  ⟨.machine, .inr (.inl rfl), PySem.W.Looks.of_pure rfl⟩
theorem pi_zipS {x : Str} {xp : Pos} {te : TE} (hg : Gl X "zip") (hm : X.mg "zip" = none) (he : PE X e te) (hs : starEach [.Starred e sp] X.env = [(true, eval e X.env)] := by rfl) :
    PI X (.Name x xp) (.Call (.Name "zip" p) [.Starred e sp] [] pos) (iZipS te) := by
  refine ⟨fun pins s σ H R I h => ?_⟩
  refine Call_ (ld_blt I hg hm PyProof.Rows.boot_zip ?_)
  rw [hs]
  refine PySem.W.ks_call (P := fun _ => True) rfl (fun h _ => looks_type h "zip") (PySem.W.ks_lone (thn (he.run pins s σ H _ I h) fun v s1 hh => ?_))
  obtain ⟨y, H1, I1, ry, a, ls, rs, rfl, ha, hrs, hp, h8, q⟩ := hh
  have ry : v = Value.ref a := ry
  subst ry
  refine StX.star_lst I1 (.inl (.of ha)) fun us s2 I2 rv => ⟨trivial, ?_⟩
  have eu := refs_of rv
  subst eu
  obtain ⟨rvs, r1, r2, r3⟩ := rowsV I2 hrs
  have hl1 : 0 < (ls.map Value.ref).length := by rw [List.length_map]; exact hp
  have hl8 : (ls.map Value.ref).length ≤ 8 := by rw [List.length_map]; exact h8
  have lt : ∀ l ∈ ls, l < s2.heap.objs.size := fun l hl => by
    obtain ⟨j, hj, ej⟩ := List.mem_iff_getElem.mp hl
    have hjr : j < rvs.length := by rw [← r2]; exact hj
    obtain ⟨n, g⟩ := r3 j _ _ (List.getElem?_eq_getElem hj) (List.getElem?_eq_getElem hjr)
    rw [ej] at g
    exact Heap.lt_size g
  have D : ZAp (s2.heap.objs.size + ls.length + 2) (s2.heap.objs.size + ls.length) (s2.heap.objs.size + ls.length + 1) (zIs s2.heap.objs.size ls.length) ls := zip_apart hp lt
  have nlen : (zIs s2.heap.objs.size ls.length).length = ls.length := by simp
  refine callType_new F.called_zip (by decide) (typeCall_zip hl1 hl8) (newCall_zip hl1 hl8) (fun obj => initOk_zip obj hl1 hl8) F.entry_zip_new (meets_zipN r2 (Nat.le_trans h8 (by decide))) ⟨r3, fun h' st hsz hk => ?_⟩
  have hz : ∃ o, h'.get? (s2.heap.objs.size + ls.length + 2) = some o ∧ o.cls = .type "zip" := by
    obtain ⟨f0, f1, ws, hz, _⟩ := st
    exact ⟨_, hz, rfl⟩
  refine ⟨hz, (turn_zipN (P := X.prog) (w := X.w) (K := X.K) (x := x) (p := xp) D (by rw [nlen]; exact Nat.le_trans h8 (by decide))).self _ 0 _ _ _ st ?_⟩
  have I3 : Inv X pins σ H1 { s2 with heap := h' } := I2.kept (t' := s2.toks) hk
  refine ⟨_, _, _, _, H1, rfl, I3, turn_zipN D (by rw [nlen]; exact Nat.le_trans h8 (by decide)), st, fun c hc => ?_, q⟩
  have hle : s2.heap.objs.size ≤ c := by
    rcases List.mem_cons.mp hc with q | hc
    · rw [q]; exact Nat.le_add_right_of_le (Nat.le_add_right _ _)
    rcases List.mem_cons.mp hc with q | hc
    · rw [q]; exact Nat.le_add_right _ _
    rcases List.mem_cons.mp hc with q | hc
    · rw [q]; exact Nat.le_add_right_of_le (Nat.le_add_right _ _)
    obtain ⟨m, hm, e⟩ := List.mem_map.mp hc
    rw [← e]
    exact Nat.le_add_right _ _
  exact I2.fpOk hle (I2.hok.fresh hle)
/-! ### in data -/
def col (rows : List (List PyData)) (i : Nat) : List PyData := rows.map fun r => r[i]?.getD .none
theorem lists_of {F : Hp} : ∀ {vs : List V} {rows : List (List PyData)}, DtA F vs (rows.map PyData.list) → ∃ (ls : List Addr) (rs : List (List V)), vs = ls.map V.ref ∧ RowsH F ls rs ∧ Paired (DtA F) rs rows ∧ ls.length = rows.length
  | _, [], .nil => ⟨[], [], rfl, .nil, .nil, rfl⟩
  | _, r :: rows, .cons h t => by
    obtain ⟨ls, rs, e1, e2, e3, e4⟩ := lists_of t
    cases h with
    | lst h1 h2 =>
      subst e1
      exact ⟨_ :: ls, _ :: rs, rfl, .cons h1 e2, .cons h2 e3, by rw [List.length_cons, List.length_cons, e4]⟩
theorem rowsH_same {F H : Hp} (e : Same F H) {ls : List Addr} {rs : List (List V)} (h : RowsH F ls rs) : RowsH H ls rs := Paired.mapP h fun _ _ q => e _ _ q
theorem col_dt {F : Hp} {i : Nat} : ∀ {rs : List (List V)} {rows : List (List PyData)} {vs : List V}, Paired (DtA F) rs rows → Paired (fun (r : List V) v => r[i]? = some v) rs vs → (∀ r ∈ rows, i < r.length) → DtA F vs (col rows i)
  | [], [], [], .nil, .nil, _ => .nil
  | r :: rs, d :: rows, v :: vs, .cons a b, .cons c e, h => by
    have hi := h d List.mem_cons_self
    have e0 : d[i]? = some d[i] := List.getElem?_eq_getElem hi
    obtain ⟨v', e1, e2⟩ := a.get e0
    have ev : v' = v := Option.some.inj (e1.symm.trans c)
    subst ev
    show DtA F (v' :: vs) ((d[i]?.getD .none) :: col rows i)
    rw [e0]
    exact .cons e2 (col_dt b e fun r hr => h r (List.mem_cons_of_mem _ hr))
theorem rows_len {F : Hp} {n : Nat} : ∀ {rs : List (List V)} {rows : List (List PyData)}, Paired (DtA F) rs rows → (∀ r ∈ rows, r.length = n) → ∀ r ∈ rs, r.length = n
  | _, _, .cons a b, h, r, hr => by
    rcases List.mem_cons.mp hr with q | q
    · rw [q, a.length]
      exact h _ List.mem_cons_self
    · exact rows_len b (fun r hr => h r (List.mem_cons_of_mem _ hr)) r q
theorem git_zipS {F : Hp} {ls : List Addr} {rs : List (List V)} {rows : List (List PyData)} {n : Nat} (h : RowsH F ls rs) (hd : Paired (DtA F) rs rows) (hn : ∀ r ∈ rows, r.length = n) : GIt F (ItzN ls) n (fun i => .pu (.tuple (col rows i))) where
  go := fun i F' H s1 s2 hi => ⟨rs, rowsH_same (s1.trans s2) h, fun r hr => by rw [rows_len hd hn r hr]; exact hi⟩
  stop := fun F' H s1 s2 => ⟨rs, rowsH_same (s1.trans s2) h, fun r hr => by rw [rows_len hd hn r hr]; exact Nat.le_refl _⟩
  yld := fun i B F' H M x H' hi s1 W y => by
    obtain ⟨T, vs, rfl, hT, rfl, hp⟩ := y
    have p := hp rs (rowsH_same (s1.trans W.fh) h)
    obtain ⟨W2, s2⟩ := W.froz (o := .tup vs) hT
    refine ⟨_, s2, W2, ?_⟩
    have d := col_dt hd p fun r hr => by rw [hn r hr]; exact hi
    exact Dt.tup upd_same (DtA.mono (s1.trans s2) d)
/-- for x in zip(*table) -/
theorem igzips {x : Str} {xp : Pos} {QI : Nat → (Nat → SD) → Mem → Prop} (hm : X.mg "zip" = none)
    (h : GE X ρ M e fun y M1 => ∃ (rows : List (List PyData)) (n : Nat), y = .pu (.list (rows.map .list)) ∧ 0 < rows.length ∧ rows.length ≤ 8 ∧ (∀ r ∈ rows, r.length = n) ∧ QI n (fun i => .pu (.tuple (col rows i))) M1)
    (hg : Gl X "zip" := by rfl) (hs : starEach [.Starred e sp] X.env = [(true, eval e X.env)] := by rfl) : GI X ρ M (.Name x xp) (.Call (.Name "zip" p) [.Starred e sp] [] pos) QI := .mk fun B F H σ R' W S s => by
  refine wI_of (pi_zipS hg hm pE hs) (h B F H σ _ W S fun y M1 v F1 H1 hx W1 s1 vx => ?_)
  obtain ⟨rows, n, rfl, hp, h8, hn, q⟩ := hx
  have vx : Dt F1 v (.list (rows.map .list)) := vx
  cases vx with
  | lst h1 h2 =>
    obtain ⟨ls, rs, e1, e2, e3, e4⟩ := lists_of h2
    subst e1
    exact ⟨_, ls, rs, rfl, W1.fh _ _ h1, rowsH_same W1.fh e2, by rw [e4]; exact hp, by rw [e4]; exact h8, s _ _ M1 _ F1 H1 q W1 s1 (git_zipS e2 e3 hn)⟩
end
end G

namespace G
open PySem PySem.Spec PyProof.Rows L2
/-! ### set(list of ints), sorted(set) of any number -/
abbrev nuS (w : World) : Obj := { cls := .type "set", dict := none, data := .set #[] 0 (.fresh 0 0 (!w.params.followText "set-order")) }
section
variable {P : Program} {w : World} {A : Around} {E : Value → Shared → Prop} {s : Shared}
/-- what a set of ints knows, behind l's items -/
abbrev SetGot (w : World) (h0 : Heap) (a : Addr) (ns : List Int) (h' : Heap) : Prop := (∃ c, c ≤ ns.length ∧ SetR w h' a (fun j => decide (j ∈ ns)) c) ∧ ∀ b o, h0.get? b = some o → h'.get? b = some o
theorem setInit_list {l : Addr} {its : List Value} {ns : List Int} {h0 : Heap} {R : Result → Shared → Prop} (hh : A.handled = none) (hl : LAt h0 l its) (hi : IntsAre its ns) (hb : ns.length + 1 < scanBound)
    (hs : s.heap = h0.push (nuS w)) (h : ∀ (h' : Heap) (tk : Nat), SetGot w h0 h0.objs.size ns h' → R (.ok (.ret .none)) { s with heap := h', toks := tk }) :
    wpAny (model P w) A.in1 (Builtin.«set.__init__» ⟨[.ref h0.objs.size, .ref l], []⟩) (fun f s' => match f with
      | .done f => R (.ok f) s'
      | .again c' => c'.quiet = true ∧ codeAny (model P w) A c' R s') (fun e s' => R (.error e) s') s := by
  obtain ⟨hp, g, d, tk, os⟩ := s
  have hs : hp = h0.push (nuS w) := hs
  subst hs
  have lt : l < h0.objs.size := let ⟨_, e⟩ := hl; Heap.lt_size e
  have hl' : LAt (h0.push (nuS w)) l its := hl.keep fun o q => Heap.get?_push_of_some _ q
  obtain ⟨n, e⟩ := id hl'
  have hS : (h0.push (nuS w)).get? h0.objs.size = some (nuS w) := Heap.get?_push_size _ rfl
  have f1 := F.sub_list_set
  have f2 := F.sub_list_frozenset
  have f3 : (Value.type "list" == Value.type "dict") = false := by decide
  have len : its.length = ns.length := hi.length
  unfold Builtin.«set.__init__» noKeywords Builtin.Frozenset.updateFrom
  generalize hPI : pyIter = PI
  wp_walk
  subst hPI
  refine wpAny_pyIter_list hl'.isList (wpAny_bind (wpAny_runValue ?_))
  have zz : (h0.push (nuS w)).objs.size = h0.objs.size + 1 := Heap.size_push ..
  have nI : l ≠ (h0.push (nuS w)).objs.size := by
    rw [zz]
    exact Nat.ne_of_lt (Nat.lt_succ_of_lt lt)
  have nS : h0.objs.size ∉ [(h0.push (nuS w)).objs.size, l] := by
    rw [zz]
    intro hm
    rcases List.mem_cons.mp hm with q | q
    · exact Nat.ne_of_lt (Nat.lt_succ_self _) q
    · rw [List.mem_singleton] at q
      exact Nat.ne_of_gt lt q
  have val : ∀ (i : Nat) (v : Value), its.toArray[i]? = some v → ∃ k t, ns[i]? = some k ∧ v = .int k t := by
    intro i v hv
    have hv : its[i]? = some v := by simpa using hv
    have hil : i < ns.length := by
      rw [← len]
      exact (List.getElem?_eq_some_iff.mp hv).1
    obtain ⟨t, e⟩ := IntsAre.int_at hi i v hv
    refine ⟨ns[i], t, List.getElem?_eq_getElem hil, ?_⟩
    rw [e, List.getD_eq_getElem?_getD, List.getElem?_eq_getElem hil]
    rfl
  refine set_update_ints ((Walks.list (by simp [hh]) _ l nI its.toArray).toS) h0.objs.size nS ns (by simpa using len) hb val its.toArray.size 0 _ (by omega) (Nat.zero_le _) ⟨⟨_, Heap.get?_push_size _ rfl, rfl, rfl⟩, hl'.isList.push _⟩ ⟨0, Nat.le_refl 0, setR_new_at (Heap.get?_push_of_some _ hS)⟩ ?_
  rintro ⟨h', g2, d2, tk2, os2⟩ c hm hc hS'
  obtain rfl : g2 = g := hm.gens
  obtain rfl : d2 = d := hm.drawn
  obtain rfl : os2 = os := hm.os
  refine wpAny_pure (wpAny_pure (h h' tk2 ⟨⟨c, by simpa [len] using hc, hS'⟩, fun b o q => ?_⟩))
  have hb0 : b < h0.objs.size := Heap.lt_size q
  refine hm.heap b o (fun hm => ?_) (Heap.get?_push_of_some _ (Heap.get?_push_of_some _ q))
  rcases List.mem_cons.mp hm with z | z
  · exact Nat.ne_of_lt hb0 z
  · rw [List.mem_singleton, zz] at z
    exact Nat.ne_of_lt (Nat.lt_succ_of_lt hb0) z
theorem call_setL {l : Addr} {its : List Value} {ns : List Int} {Q : Value → Shared → Prop} (hh : A.handled = none) (hl : LAt s.heap l its) (hi : IntsAre its ns) (hb : ns.length + 1 < scanBound)
    (h : ∀ (h' : Heap) (tk : Nat), SetGot w s.heap s.heap.objs.size ns h' → Q (.ref s.heap.objs.size) { s with heap := h', toks := tk }) : wpAny (model P w) A (call (.type "set") [.ref l]) Q E s := by
  obtain ⟨c, tl, hmro⟩ := F.called_set.mro
  have ⟨h1, h2, _, hmade, _, hsub, _⟩ := F.called_set
  have hct := F.typeCall_set_1 (.ref l)
  refine wpAny_call (codeAny_of_tree (show wpAny _ _ (callAny (.type "set") _) _ _ _ from ?_))
  refine wpAny_pure ⟨Code.quiet_builtin _ (by decide +kernel), codeAny_builtin F.entry_type_call (by
    rw [Around.under_plain (weight_type_call_type "set" [.ref l] []) rfl]
    repeat (any_goals (first | assumption | wp_step))
    refine codeAny_mono (code_set_led1 (.ref l) (E := E) (Q₁ := fun obj t => obj = .ref s.heap.objs.size ∧ t = { s with heap := s.heap.push (nuS w) }) ⟨rfl, rfl⟩) fun r t hr => ?_
    match r, hr with
    | .error e, hr => exact hr
    | .ok .next, hr => exact False.elim hr
    | .ok .brk, hr => exact False.elim hr
    | .ok .cont, hr => exact False.elim hr
    | .ok (.ret obj), hr =>
      obtain ⟨rfl, rfl⟩ := hr
      have hT : Shared.TypeIs { s with heap := s.heap.push (nuS w) } (.ref s.heap.objs.size) "set" := ⟨_, Heap.get?_push_size _ rfl, rfl⟩
      have ⟨_, _, _, _, _, _, hin⟩ := F.called_set
      have hli := hin.lookup
      have hbi := hin.bind (.ref s.heap.objs.size)
      repeat (any_goals (first | assumption | wp_step))
      refine codeAny_mono (codeAny_call_builtin (R := wants (fun r t => r = .none ∧ ∃ h' tk, t = { s with heap := h', toks := tk } ∧ SetGot w s.heap s.heap.objs.size ns h') E) hin.plain F.entry_set_init
        (check_set_init_1 hT (setInit_list (h0 := s.heap) hh hl hi hb rfl fun h' tk g => ⟨rfl, h', tk, rfl, g⟩))) fun r₂ t hr₂ => ?_
      match r₂, hr₂ with
      | .error e, hr => exact hr
      | .ok .next, hr => exact False.elim hr
      | .ok .brk, hr => exact False.elim hr
      | .ok .cont, hr => exact False.elim hr
      | .ok (.ret _), hr =>
        obtain ⟨rfl, h', tk, rfl, g⟩ := hr
        repeat (any_goals (first | assumption | wp_step))
        exact h h' tk g)⟩
end
end G

namespace G
open PySem PySem.Spec PyProof.Rows L2
section
variable {P : Program} {w : World} {A : Around} {E : Value → Shared → Prop} {s : Shared} {a : Addr}
theorem sorted_setB {S : Int → Bool} {n : Nat} {Q : Value → Shared → Prop} (R : SetR w s.heap a S n) (hh : A.handled = none) (hz : n ≤ 4000)
    (hQ : ∀ (t : Shared) (p : Addr) (out : List Value) (c : Nat) (ns : List Int), (∀ b o, s.heap.get? b = some o → t.heap.get? b = some o) → t.gens = s.gens → t.os = s.os → s.heap.objs.size ≤ p →
      t.heap.get? p = some (seqObj "list" out.toArray c) → IntsAre out ns → ns.Pairwise (· < ·) → (∀ k, k ∈ ns ↔ S k = true) → ns.length = n → Q (.ref p) t) :
    wpAny (model P w) A (call (.builtin "sorted") [.ref a]) Q E s := by
  obtain ⟨o, es, ep, t, ho, hex, hd, g, nd, hm, hb, hf, hn, hr, hl⟩ := R
  refine Calls.call_function_entry kind_sorted plain_sorted entry_sorted (args_sorted1 _) (show wpAny _ _ (checkCount "sorted" 1 1 _ >>= _) _ _ _ from wpAny_bind (wpAny_pure ?_))
  refine wpAny_bind (collect_set (A := A.in1) hh ⟨o, ho, hex.1, hd⟩ hf hb hr hl fun s1 vs k1 hz1 g1 o1 pm => ?_)
  have vl : vs.length = n := by
    have q := pm.length_eq
    rw [List.length_map, Array.length_toList] at q
    exact q.trans hn
  have hI : IntsAre vs (vs.map SrtO.iv) := SrtO.ints_iv fun v hv => by
    obtain ⟨e, he, q⟩ := List.mem_map.mp (pm.mem_iff.mp hv)
    obtain ⟨k, tk, h1, _⟩ := g e he
    subst q
    exact ⟨k, tk, h1⟩
  have pk : (vs.map SrtO.iv).Perm (es.toList.map keyOf) := by
    have q := pm.map SrtO.iv
    rw [List.map_map] at q
    exact q
  have vz : vs.length ≤ sizeLine := by
    rw [vl, sizeLine_eq]
    omega
  refine wpAny_bind (wpAny_newList ?_ vz)
  have hoL : (s1.heap.push (seqObj "list" vs.toArray 0)).get? s1.heap.objs.size = some (seqObj "list" vs.toArray 0) := Heap.get?_push_size _ rfl
  refine wpAny_bind (wpAny_holding (wpAny_call_entry slot_list_sort ⟨_, hoL, rfl⟩ entry_list_sort (SrtO.list_sort_ord SrtO.swo_int hoL vz (fun h2 => SrtO.ints_sortable hI h2) fun out b1 b2 => ⟨_, rfl, ?_⟩) (args_list_sort _)))
  obtain ⟨i1, i2, i3⟩ := SrtO.ints_out hI b1 b2
  obtain ⟨c, hc⟩ := sortedHeap_at (vs := vs) (out := out.toArray) hoL
  have pn := i2.trans pk
  refine wpAny_pure ⟨_, rfl, hQ _ s1.heap.objs.size out c (out.map SrtO.iv) (fun b u e => ?_) g1 o1 hz1 hc i1 (lt_of_le_nodup _ i3 (pn.nodup_iff.mpr nd)) (fun k => by rw [pn.mem_iff, ← hm k]) ?_⟩
  · have lt := Heap.lt_size (k1 b u e)
    have q := Heap.get?_push_of_some (seqObj "list" vs.toArray 0) (k1 b u e)
    show (sortedHeap (s1.heap.push (seqObj "list" vs.toArray 0)) s1.heap.objs.size vs out.toArray).get? b = some u
    rw [sortedHeap_old (Nat.ne_of_lt lt) (by rw [size_push']; exact Nat.lt_succ_of_lt lt)]
    exact q
  · have q := pn.length_eq
    rw [List.length_map (as := es.toList), Array.length_toList] at q
    exact q.trans hn
end
section
variable {X : Cx} {ρ : List SD} {M : Mem} {Q : Kn} {pos : Pos} {e : Expr}
/-- set(l) of a changing or frozen list of ints: the set's object is followed -/
def rSetI (w : World) : List V → Hp → VK → Prop := fun vs H Q => ∃ (l : Addr) (ns : List Int), vs = [.ref l] ∧ H l = some (.lst (ns.map V.int)) ∧ ns.length ≤ 4000 ∧ ∀ p n, H p = none → n ≤ ns.length → Q (.ref p) (upd H p (SetO w p (fun j => decide (j ∈ ns)) n))
theorem cr_setI (hc : X.calm = true) : CallR X (.type "set") (rSetI X.w) := by
  intro pins s σ H vs us Q I r h
  obtain ⟨l, ns, rfl, hl, hz, q⟩ := h
  rw [Vals.ref1 r]
  obtain ⟨z, its, n, g1, g2, g3⟩ := I.lstM hl
  refine call_setL (I.ok.hd hc) ⟨n, g3⟩ g1.ints (by unfold scanBound; omega) fun h' tk ⟨⟨c, hc, hS⟩, hk⟩ => ?_
  have hn : H s.heap.objs.size = none := I.hok.fresh (Nat.le_refl _)
  exact ⟨.ref s.heap.objs.size, _, I.laid (t' := tk) hk (Nat.le_refl _) (setO_new hS), rfl, q _ c hn hc⟩
def rSortedB (w : World) : List V → Hp → VK → Prop := fun vs H Q => ∃ (a : Addr) (S : Int → Bool) (n : Nat), vs = [V.ref a] ∧ H a = some (SetO w a S n) ∧ n ≤ 4000 ∧
  ∀ (ns : List Int) (p : Addr), ns.Pairwise (· < ·) → (∀ k : Int, k ∈ ns ↔ S k = true) → ns.length = n → H p = none → Q (.ref p) (upd H p (.lst (ns.map V.int)))
theorem cr_sortedB (hc : X.calm = true) : CallR X (.builtin "sorted") (rSortedB X.w) := by
  intro pins s σ H vs us Q I r h
  obtain ⟨a, S, n, rfl, ha, hz, q⟩ := h
  rw [Vals.ref1 r]
  refine sorted_setB (setO_get I ha) (I.ok.hd hc) hz fun t p out c ns k g o hp hg hi hs hm hl => ?_
  have hlen : (ns.map V.int).length ≤ sizeLine := by
    rw [List.length_map, hl, sizeLine_eq]
    omega
  have hn : H p = none := I.hok.fresh hp
  obtain ⟨h', g', d', t', o'⟩ := t
  obtain rfl : g' = s.gens := g
  obtain rfl : o' = s.os := o
  have J : Inv X pins σ (upd H p (.lst (ns.map V.int))) { s with heap := h', gens := s.gens, drawn := d', toks := t' } :=
    I.call (ch := []) (Un.laid k hp hn) (I.hok.laid k hp ⟨hlen, out, c, vals_of_ints hi, hg⟩) I.bare (fun _ z => nomatch z)
  exact ⟨.ref p, _, J, rfl, q ns p hs hm hl hn⟩
/-- sorted(set(e)): e a list of ints -/
theorem gsortset {p p2 cpos : Pos} (hc : X.calm = true) (hm : X.mg "sorted" = none) (hm2 : X.mg "set" = none)
    (h : GE X ρ M e fun x M1 => ∃ ns, LV M1 x (pints ns) ∧ ns.length ≤ 4000 ∧ ∀ l ns', ns'.Pairwise (· < ·) → (∀ k, k ∈ ns' ↔ k ∈ ns) → ns'.length ≤ ns.length → Q (.rf (.ref l)) ((l, .lst (pints ns')) :: M1))
    (hg : Gl X "sorted" := by rfl) (hg2 : Gl X "set" := by rfl) (he : starEach [e] X.env = [(false, eval e X.env)] := by rfl)
    (he2 : starEach [.Call (.Name "set" p2) [e] [] cpos] X.env = [(false, eval (.Call (.Name "set" p2) [e] [] cpos) X.env)] := by rfl) : GE X ρ M (.Call (.Name "sorted" p) [.Call (.Name "set" p2) [e] [] cpos] [] pos) Q := .mk fun B F H σ Q' W S s => by
  refine wE_of (pe_callB (cr_sortedB hc) hg hm PyProof.Rows.boot_sorted (pa_cons (pe_callTy (cr_setI hc) hg2 hm2 boot_set (pa_cons pE pa_nil he) (by decide) (by decide) he) pa_nil he2) (by decide) (by decide) he2) ?_
  refine h B F H σ _ W S fun x M1 v F1 H1 hx W1 s1 vx => ?_
  obtain ⟨ns, lv, hz, q⟩ := hx
  obtain ⟨p, vs, rfl, hp, pr⟩ := lv.at W1 vx
  have ev := ints_of pr
  subst ev
  refine ⟨p, ns, rfl, hp, hz, fun d n hd hn => ?_⟩
  refine ⟨d, _, n, rfl, upd_same, Nat.le_trans hn hz, fun ns' l h1 h2 h3 hl => ?_⟩
  have W2 := W1.other (o := SetO X.w d (fun j => decide (j ∈ ns)) n) hd
  exact s _ _ _ F1 _ (q l ns' h1 (fun k => by rw [h2 k, decide_eq_true_iff]) (by omega)) (W2.newl hl (of_ints ns')) s1 rfl
end
end G

namespace G
open PySem PySem.Spec PyProof.Rows L2
section
variable {X : Cx} {ρ : List SD} {M : Mem} {Q : Kn} {pos : Pos} {a b e : Expr}
/-! ### list(range(n)) -/
theorem rgV_ints (n : Nat) : rgV 0 n = ((List.range n).map fun i : Nat => (i : Int)).map V.int := by
  unfold rgV
  rw [show ((n : Int) - 0).toNat = n by omega, List.map_map]
  refine List.map_congr_left fun i _ => ?_
  show V.int (0 + (i : Int)) = V.int (i : Int)
  rw [Int.zero_add]
theorem glistr {p p2 cpos : Pos} (hc : X.calm = true) (hm : X.mg "list" = none) (hm2 : X.mg "range" = none)
    (h : GE X ρ M e fun x M1 => ∃ n : Nat, x = .pu (.int n) ∧ n ≤ 10000 ∧ ∀ l, Q (.rf (.ref l)) ((l, .lst (pints ((List.range n).map fun i : Nat => (i : Int)))) :: M1))
    (hg : Gl X "list" := by rfl) (hg2 : Gl X "range" := by rfl) (he : starEach [e] X.env = [(false, eval e X.env)] := by rfl)
    (he2 : starEach [.Call (.Name "range" p2) [e] [] cpos] X.env = [(false, eval (.Call (.Name "range" p2) [e] [] cpos) X.env)] := by rfl) : GE X ρ M (.Call (.Name "list" p) [.Call (.Name "range" p2) [e] [] cpos] [] pos) Q := .mk fun B F H σ Q' W S s => by
  refine wE_of (pe_listRg hc hg hm (prg_1 hg2 hm2 pE he) he2) (h B F H σ _ W S fun x M1 v F1 H1 hx W1 s1 vx => ?_)
  obtain ⟨n, rfl, hn, q⟩ := hx
  have vx : Dt F1 v (.int n) := vx
  cases vx
  refine ⟨n, rfl, .of_le (by omega) (by omega) (by omega) (by omega), fun d hd => ?_⟩
  rw [rgV_ints]
  exact s _ _ _ F1 _ (q d) (W1.newl hd (of_ints _)) s1 rfl
/-! ### great ints -/
def CPowW (i j : Int) : Prop := 0 ≤ j ∧ (Builtin.Int.intBits i : Int) * j ≤ 2 ^ 27
theorem op_powW : OpR X (binaryOp .Pow) (rI CPowW fun i j => .int (i ^ j.toNat)) := opI fun _ _ _ _ _ _ _ hc q => pow_int hc.1 hc.2 q
theorem gpowW (h : GE X ρ M a (i2 (fun i j M2 => CPowW i j ∧ Q (.pu (.int (i ^ j.toNat))) M2) X ρ b)) : GE X ρ M (.BinOp a .Pow b pos) Q := ge2 op_powW (h.mono fun x M1 ⟨i, e, h⟩ => e ▸ h.mono fun y M2 ⟨j, e, h⟩ => e ▸ rI_ h.1 h.2)
theorem gmulW (h : GE X ρ M a (i2 (fun i j M2 => CMulW i j ∧ Q (.pu (.int (i * j))) M2) X ρ b)) : GE X ρ M (.BinOp a .Mult b pos) Q := ge2 op_mulW (h.mono fun x M1 ⟨i, e, h⟩ => e ▸ h.mono fun y M2 ⟨j, e, h⟩ => e ▸ rI_ h.1 h.2)
/-! ### the script -/
def ScrK (K : PySem.W.Frag) (a : Addr) (xs : List V) : Prop := ∃ (o : Obj) (its : Array Value) (n : Nat), K.lookup a = some o ∧ o.cls = .type "list" ∧ o.dict = none ∧ o.data = .seq its n ∧ its.size ≤ sizeLine ∧ Vals xs its.toList
inductive Scr (K : PySem.W.Frag) (M : Mem) (a : Addr) (ns : List Int) : Prop where
  | own : (a, MO.frz (ns.map V.int)) ∈ M → Scr K M a ns
  | kit : ScrK K a (ns.map V.int) → Scr K M a ns
theorem Scr.sq {K : PySem.W.Frag} {B : Bs} {F H : Hp} {a : Addr} {ns : List Int} (h : Scr K M a ns) (W : Wd B F H M) : SqL K H a (ns.map V.int) := by
  cases h with
  | own h =>
    obtain ⟨_, o, e⟩ := W.mem _ h
    exact .inl (.inr ⟨o, e⟩)
  | kit h => exact .inr h
theorem gslS {lo hi : Option Expr} {p2 : Pos} (h : GE X ρ M e fun x M1 => GO X ρ M1 (fun i M2 => GO X ρ M2 (fun j M3 => ∃ a ns, x = .rf (.ref a) ∧ Scr X.K M3 a ns ∧ ∀ l, Q (.rf (.ref l)) ((l, .lst (cutL (pints ns) i j)) :: M3)) hi) lo) : GE X ρ M (.Subscript e (.Slice lo hi none p2) pos) Q := .mk fun B F H σ Q' W S s => by
  refine wE_of (pe_slice sl_list pE pOpt pOpt) (h B F H σ _ W S fun x M1 v F1 H1 hx W1 s1 vx => ?_)
  refine goRun W1 (pMono s1 S) (fun i M2 F2 H2 hy W2 s2 => ?_) hx
  refine goRun W2 (pMono (s1.trans s2) S) (fun j M3 F3 H3 hz W3 s3 => ?_) hy
  obtain ⟨a, ns, rfl, sc, q⟩ := hz
  obtain rfl : v = .ref a := vx
  exact ⟨a, _, rfl, sc.sq W3, fun q' hq => s _ _ _ F3 _ (q q') (W3.newl hq (paired_cut i j (of_ints ns))) ((s1.trans s2).trans s3) rfl⟩
end
end G

namespace G
open PySem PySem.Spec PyProof.Rows L2
/-- what a law asks of its own def -/
def LawS (K : PySem.W.Frag) (n : Nat) : GSpec := fun rs M Kk => ∃ a ns, rs = [.rf (.ref a)] ∧ Scr K M a ns ∧ ns.length ≤ n ∧ (∀ z ∈ ns, Builtin.Int.intBits z ≤ 1048576) ∧ (M = [] ∨ ∃ mo, M = [(a, mo)]) ∧ ∀ M', Kk (.pu (.bool true)) M'
section
variable {P : Program} {w : World} {K : PySem.W.Frag} {mg mb : Str → Option Value} {k n : Nat} {fa a : Addr} {fd : FuncData} {x : Str} {t : Shared} {vs : List Value} {ns : List Int}
abbrev scO (vs : List Value) : Obj := { cls := .type "list", data := .seq vs.toArray }
abbrev EndsWell (t : Shared) (r : Result) (t' : Shared) : Prop := r = .ok (.ret (.bool true)) ∧ OldK t.heap t'.heap ∧ t'.os = t.os ∧ AllBare t'.gens
theorem head_at {H : Hp} {S : GSpec} (KX : K.In t.heap) (nm : t.heap.Ns mainGlobals mg) (nb : t.heap.Ns builtinsNs mb) (hbb : ∀ x : Str, x ≠ "__name__" → mb x = bootBuiltins x) (lim : t.heap.NoLimit) (gn : t.gens = #[])
    (ha : t.heap.get? a = some (scO vs)) (hr : Room k callerA) (FF : ∀ base : Heap, K.In base → base.Ns mainGlobals mg → FnG P w K mg base k fa fd [x] S) (bd : ∀ (s : Shared) (u : Value), BindsTo s fd ⟨[u], []⟩ [(x, u)])
    (only : Only H) (ok : HOk P w H t.heap) (one : ∀ b, H b ≠ none → b = a) (nk : H a ≠ none → K.lookup a = none) (sp : spG S [.ref a] H (fun v _ => v = .bl true) E0) :
    codeAny (model P w) callerA (.call (.ref fa) ⟨[.ref a], []⟩) (EndsWell t) t := by
  have free : ∀ {b : Addr} {o : Obj} {es : Array DictEntry} {ep : Nat}, t.heap.get? b = some o → o.data = .dict es ep → H b = none := by
    intro b o es ep e d
    refine Classical.byContradiction fun hn => ?_
    have eb := one b hn
    rw [eb, ha] at e
    cases e
    cases d
  have hid : ∀ {b : Addr} {m : Str → Option Value}, t.heap.Ns b m → (hidT t.heap H).Ns b m := by
    rintro b m ⟨o, es, ep, e, d, r⟩
    exact ⟨o, es, ep, hidT_get e (free e d), d, r⟩
  have kin : K.In (hidT t.heap H) := by
    intro b o e
    refine hidT_get (KX b o e) (Classical.byContradiction fun hn => ?_)
    have eb := one b hn
    rw [eb] at hn e
    rw [nk hn] at e
    cases e
  have md : Mod K mg (hidT t.heap H) := by
    obtain ⟨mc, l1, l2⟩ := lim
    exact ⟨kin, hid nm, ⟨mb, hid nb, hbb⟩, ⟨mc, hid l1, l2⟩⟩
  have e0 : Env0 P w K mg (hidT t.heap H) callerA [] t H := ⟨rfl, md, fun b o e => of_hidT e, Nat.le_of_eq (hidT_size _ _), trivial, fun b hb => (List.not_mem_nil hb).elim, ok, .of_eq gn⟩
  have ran := (FF _ kin (hid nm)).run callerA [] t H ⟨[.ref a], []⟩ [.ref a] [.ref a] _ rfl hr e0 (bd t (.ref a)) (.cons rfl .nil) sp
  refine codeAny_mono ran fun r t' h => ?_
  match r, h with
  | .error _, h => exact False.elim h
  | .ok .next, h => exact False.elim h
  | .ok .brk, h => exact False.elim h
  | .ok .cont, h => exact False.elim h
  | .ok (.ret u), h =>
    obtain ⟨v, H', os, bare, un, ok', rv, q⟩ := h
    have q : v = .bl true := q
    subst q
    have rv : u = Value.bool true := rv
    subst rv
    refine ⟨rfl, OldK.of_keep fun b o e => ?_, os, bare⟩
    rcases only b with z | ⟨ob, xs, z⟩
    · exact un.keep b o e z (fun y => (List.not_mem_nil y).elim) (by simp)
    · have b1 := (ok b _ z).1
      have b2 := (ok' b _ (un.frzs b ob _ z)).1
      rw [e] at b1
      cases b1
      exact b2
theorem law_head (KX : K.In t.heap) (nm : t.heap.Ns mainGlobals mg) (nb : t.heap.Ns builtinsNs mb) (hbb : ∀ x : Str, x ≠ "__name__" → mb x = bootBuiltins x) (lim : t.heap.NoLimit) (gn : t.gens = #[])
    (ha : t.heap.get? a = some (scO vs)) (hi : IntsAre vs ns) (hl : ns.length ≤ n) (hn : n ≤ sizeLine) (hbits : ∀ z ∈ ns, Builtin.Int.intBits z ≤ 1048576) (hr : Room k callerA)
    (FF : ∀ base : Heap, K.In base → base.Ns mainGlobals mg → FnG P w K mg base k fa fd [x] (LawS K n)) (bd : ∀ (s : Shared) (u : Value), BindsTo s fd ⟨[u], []⟩ [(x, u)]) :
    codeAny (model P w) callerA (.call (.ref fa) ⟨[.ref a], []⟩) (EndsWell t) t := by
  have rv := vals_ints hi
  have hl2 : ns.length ≤ sizeLine := Nat.le_trans hl hn
  have sat : ∀ {B : Bs} {F : Hp}, Sat B F (fun r M' => r = .pu (.bool true)) (fun v _ => v = V.bl true) := by
    intro B F r M' v F' H' q W s vv
    subst q
    have vv : Dt F' v (.bool true) := vv
    cases vv
    rfl
  cases hk : K.lookup a with
  | some o =>
    have e := KX a o hk
    rw [ha] at e
    cases e
    have sk : ScrK K a (ns.map V.int) := ⟨_, vs.toArray, _, hk, rfl, rfl, rfl, by rw [List.size_toArray, hi.length]; exact hl2, by simpa using rv⟩
    refine head_at (H := fun _ => none) KX nm nb hbb lim gn ha hr FF bd (fun b => .inl rfl) (fun b u z => by cases (show (none : Option HO) = some u from z)) (fun b z => absurd rfl z) (fun z => absurd rfl z) ?_
    refine ⟨fun _ => none, [.rf (.ref a)], [], fun r _ => r = .pu (.bool true), .cons rfl .nil, ?_, ⟨a, ns, rfl, .kit sk, hl, hbits, .inl rfl, fun _ => rfl⟩, sat⟩
    exact ⟨fun b o e => e, fun b o e => e, fun b o e => .inl (.inl e), fun b o e _ => e, fun b e => e, fun p hp => (List.not_mem_nil hp).elim, List.nodup_nil, fun p hp => (List.not_mem_nil hp).elim⟩
  | none =>
    have at_a : (fun b => if b = a then some (HO.frz (scO vs) (.lst (ns.map V.int))) else none : Hp) a = some (.frz (scO vs) (.lst (ns.map V.int))) := if_pos rfl
    have off : ∀ {b : Addr}, b ≠ a → (fun b => if b = a then some (HO.frz (scO vs) (.lst (ns.map V.int))) else none : Hp) b = none := fun h => if_neg h
    generalize (fun b => if b = a then some (HO.frz (scO vs) (.lst (ns.map V.int))) else none : Hp) = H at at_a off
    refine head_at (H := H) KX nm nb hbb lim gn ha hr FF bd (fun b => ?_) (fun b u z => ?_) (fun b z => ?_) (fun _ => hk) ?_
    · by_cases h : b = a
      · rw [h]
        exact .inr ⟨_, _, at_a⟩
      · exact .inl (off h)
    · by_cases h : b = a
      · subst h
        rw [at_a] at z
        cases z
        exact ⟨ha, by rw [List.length_map]; exact hl2, vs, _, rv, ha⟩
      · rw [off h] at z
        cases z
    · exact Classical.byContradiction fun h => z (off h)
    · refine ⟨fun _ => none, [.rf (.ref a)], [(a, .frz (ns.map V.int))], fun r _ => r = .pu (.bool true), .cons rfl .nil, ?_, ⟨a, ns, rfl, .own List.mem_cons_self, hl, hbits, .inr ⟨_, rfl⟩, fun _ => rfl⟩, sat⟩
      refine ⟨fun b o e => (nomatch e), fun b o e => e, fun b o e => .inl (.inl e), fun b o e _ => e, fun b e => e, fun p hp => ?_, ?_, fun p hp => .inr (List.mem_map_of_mem hp)⟩
      · rw [List.mem_singleton] at hp
        subst hp
        exact ⟨rfl, _, at_a⟩
      · exact List.pairwise_singleton _ _
end
/-- from the promise of the law's def to the statement's goal -/
theorem walkG {l : PySem.W.OpenLaw} {n k : Nat} {q : Program} {loose : List Str} {XP : (Str → Option Value) → Heap → Prop} {YP : World → Heap → Prop} {d : DefRec} {K : Params → PySem.W.Frag} {x : Str}
    (hn : l.most = some n) (hn2 : n ≤ sizeLine) (hdf : d.params.defaults = []) (hr : Room k callerA) (hY : ∀ (w : World) (h : Heap), YP w h → (K w.params).In h)
    (FF : ∀ (w : World) (mg : Str → Option Value) (fa : Addr) (h : Heap), (K w.params).In h → h.Ns mainGlobals mg → mg d.name = some (.ref fa) → ∃ fd : FuncData, (∀ (s : Shared) (u : Value), BindsTo s fd ⟨[u], []⟩ [(x, u)]) ∧
      ∀ base : Heap, (K w.params).In base → base.Ns mainGlobals mg → FnG l.prog w (K w.params) mg base k fa fd [x] (LawS (K w.params) n)) :
    PySem.W.WalkO q loose XP YP l.row.toRowW d [] (fun f vs => PySem.call f vs) := by
  refine Att.attach_callB hn hdf fun w s₀ t mg mb fa o pm cd doc a vs ns G Y _ _ _ hmg hobj hints hlen hbits hg => ?_
  have KX := hY w _ Y
  obtain ⟨fd, hb, hF⟩ := FF w mg fa _ KX G.T.g hmg
  exact law_head KX G.T.g G.T.b G.T.builtins G.T.nolimit hg hobj hints hlen hn2 hbits hr hF hb
end G

namespace G
open PySem PySem.Spec PyProof.Rows L2
theorem iteY {k : Bool} {A B : Prop} (h : k = true) (q : A) : if k = true then A else B := by
  subst h
  exact iteT q
theorem iteN {k : Bool} {A B : Prop} (h : k = false) (q : B) : if k = true then A else B := by
  subst h
  exact iteF q
/-- both ways -/
theorem iteB {k : Bool} {A B : Prop} (h1 : k = true → A) (h2 : k = false → B) : if k = true then A else B := by
  cases k with
  | true => exact iteT (h1 rfl)
  | false => exact iteF (h2 rfl)
section
variable {X : Cx} {ρ : List SD} {M : Mem} {Q : Kn} {pos : Pos} {elt tg it tg1 it1 : Expr} {ifs ifs1 : List Expr} {scope : Scope} {own : List (Str × Nat)} {t t1 : Tg} {vs vs1 : List Nat}
/-- what a comprehension makes whose turns change nothing: the items g i of the i below n for which c i -/
def fm (n : Nat) (c : Nat → Bool) (g : Nat → SD) : List SD := ((List.range n).filter c).map g
theorem fm_succ (n : Nat) (c : Nat → Bool) (g : Nat → SD) : fm (n + 1) c g = if c n = true then fm n c g ++ [g n] else fm n c g := by
  unfold fm
  rw [List.range_succ, List.filter_append]
  cases h : c n <;> simp [h]
theorem fm_len (n : Nat) (c : Nat → Bool) (g : Nat → SD) : (fm n c g).length ≤ n := by
  unfold fm
  rw [List.length_map]
  have := List.length_filter_le c (List.range n)
  rw [List.length_range] at this
  exact this
theorem fm_all (n : Nat) (g : Nat → SD) : fm n (fun _ => true) g = (List.range n).map g := by
  unfold fm
  rw [List.filter_eq_self.mpr (fun _ _ => rfl)]
theorem gts_nil {Y : Cx} {Q : Bool → Mem → Prop} (h : Q true M) : GTs Y ρ M [] Q := h
theorem gts_one {Y : Cx} {c : Expr} {Q : Bool → Mem → Prop} (h : GT Y ρ M c Q) : GTs Y ρ M [c] Q := h
theorem lc_fm {n : Nat} {item : Nat → SD} (c : Nat → Bool) (g : Nat → SD) (hn : n ≤ 100000)
    (turn : ∀ i, i < n → ∃ ρ2, t.put (wipeR ρ vs) (item i) = some ρ2 ∧ (∀ Y, Blk X scope Y → GTs Y ρ2 M ifs fun b M2 => b = c i ∧ M2 = M) ∧ (c i = true → ∀ Y, Blk X scope Y → GE Y ρ2 M elt fun r M2 => r = g i ∧ M2 = M))
    (fin : ∀ l, Q (.rf (.ref l)) ((l, .lst (fm n c g)) :: M)) : LComp X scope ρ vs t ifs elt Q n item M := by
  refine ⟨hn, fun i acc M' => acc = fm i c g ∧ M' = M, ⟨rfl, rfl⟩, fun i acc M' hi ha hp => ?_, fun acc M' ha hp l => ?_⟩
  · obtain ⟨rfl, rfl⟩ := hp
    obtain ⟨ρ2, hput, ht, he⟩ := turn i hi
    refine ⟨ρ2, hput, fun Y hY => ?_⟩
    have hT := ht Y hY
    have step : ∀ b M2, b = c i ∧ M2 = M' → if b = true then ∀ Y2, Blk X scope Y2 → GE Y2 ρ2 M2 elt (fun r M3 => fm i c g ++ [r] = fm (i + 1) c g ∧ M3 = M') else fm i c g = fm (i + 1) c g ∧ M2 = M' := by
      rintro b M2 ⟨rfl, rfl⟩
      cases hc : c i with
      | true =>
        refine iteT fun Y2 hY2 => (he hc Y2 hY2).mono fun r M3 ⟨e1, e2⟩ => ⟨?_, e2⟩
        rw [fm_succ, if_pos hc, e1]
      | false =>
        refine iteF ⟨?_, rfl⟩
        rw [fm_succ, if_neg (by rw [hc]; exact Bool.false_ne_true)]
    match ifs, hT with
    | [], hT => exact step true M' hT
    | [c0], hT => exact (show GT Y ρ2 M' c0 _ from hT).mono step
  · obtain ⟨rfl, rfl⟩ := hp
    exact fin l
theorem lc_map {n : Nat} {item : Nat → SD} (g : Nat → SD) (hn : n ≤ 100000)
    (turn : ∀ i, i < n → ∃ ρ2, t.put (wipeR ρ vs) (item i) = some ρ2 ∧ ∀ Y, Blk X scope Y → GE Y ρ2 M elt fun r M2 => r = g i ∧ M2 = M)
    (fin : ∀ l, Q (.rf (.ref l)) ((l, .lst ((List.range n).map g)) :: M)) : LComp X scope ρ vs t [] elt Q n item M :=
  lc_fm (fun _ => true) g hn (fun i hi => let ⟨ρ2, a, b⟩ := turn i hi; ⟨ρ2, a, fun Y hY => ⟨rfl, rfl⟩, fun _ => b⟩) fun l => by
    rw [fm_all]
    exact fin l
/-- two fors -/
def fm2 (n : Nat) (n1 : Nat → Nat) (c : Nat → Nat → Bool) (g : Nat → Nat → SD) : List SD := (List.range n).flatMap fun i => fm (n1 i) (c i) (g i)
theorem fm2_succ (n : Nat) (n1 : Nat → Nat) (c : Nat → Nat → Bool) (g : Nat → Nat → SD) : fm2 (n + 1) n1 c g = fm2 n n1 c g ++ fm (n1 n) (c n) (g n) := by
  unfold fm2
  rw [List.range_succ, List.flatMap_append]
  simp
theorem fm2_len {n m : Nat} {n1 : Nat → Nat} (c : Nat → Nat → Bool) (g : Nat → Nat → SD) (h : ∀ i, i < n → n1 i ≤ m) : ∀ i, i ≤ n → (fm2 i n1 c g).length ≤ i * m := by
  intro i
  induction i with
  | zero => intro _; exact Nat.zero_le _
  | succ i ih =>
    intro hi
    rw [fm2_succ, List.length_append, Nat.succ_mul]
    exact Nat.add_le_add (ih (by omega)) (Nat.le_trans (fm_len _ _ _) (h i (by omega)))
theorem lc2_fm {n m : Nat} {item : Nat → SD} (n1 : Nat → Nat) (item1 : Nat → Nat → SD) (c : Nat → Nat → Bool) (g : Nat → Nat → SD) (hm : ∀ i, i < n → n1 i ≤ m) (hn : (n + 1) * m < 50000)
    (turn : ∀ i, i < n → ∃ ρ2, t.put (wipeR ρ vs) (item i) = some ρ2 ∧ ∀ Y, Blk X scope Y → GI Y ρ2 M tg1 it1 fun n' it' M2 => n' = n1 i ∧ it' = item1 i ∧ M2 = M ∧
      ∀ j, j < n1 i → ∃ ρ3, t1.put (wipeR ρ2 vs1) (item1 i j) = some ρ3 ∧ (∀ Y, Blk X scope Y → GTs Y ρ3 M ifs1 fun b M2 => b = c i j ∧ M2 = M) ∧ (c i j = true → ∀ Y, Blk X scope Y → GE Y ρ3 M elt fun r M2 => r = g i j ∧ M2 = M))
    (fin : ∀ l, Q (.rf (.ref l)) ((l, .lst (fm2 n n1 c g)) :: M)) : LComp2 X scope ρ vs vs1 t t1 [] tg1 it1 ifs1 elt Q n item M := by
  have bnd : ∀ i, i ≤ n → (fm2 i n1 c g).length ≤ n * m := fun i hi => Nat.le_trans (fm2_len c g hm i hi) (Nat.mul_le_mul_right m hi)
  refine ⟨fun i acc M' => i ≤ n ∧ acc = fm2 i n1 c g ∧ M' = M, ⟨Nat.zero_le _, rfl, rfl⟩, fun i acc M' hp => ?_, fun i acc M' hi hp => ?_, fun acc M' hp l => ?_⟩
  · obtain ⟨h, rfl, rfl⟩ := hp
    have := bnd i h
    rw [Nat.succ_mul] at hn
    omega
  · obtain ⟨h, rfl, rfl⟩ := hp
    obtain ⟨ρ2, hput, hI⟩ := turn i hi
    refine ⟨ρ2, hput, fun Y hY => gts_nil (iteT fun Y1 hY1 => .mk fun B F H σ R' W S s => ?_)⟩
    refine hI Y1 hY1 B F H σ R' W S fun n' it' M2 J F' H' hx W' s' gi => ?_
    obtain ⟨rfl, rfl, rfl, inner⟩ := hx
    refine s _ _ M2 J F' H' ?_ W' s' gi
    refine ⟨fun j acc M' => j ≤ n1 i ∧ acc = fm2 i n1 c g ++ fm j (c i) (g i) ∧ M' = M2, ⟨Nat.zero_le _, by simp [fm], rfl⟩, fun j acc M' hp => ?_, fun j acc2 M4 hj hp => ?_, fun acc2 M4 hp => ?_⟩
    · obtain ⟨h3, rfl, rfl⟩ := hp
      have e1 := bnd i h
      have e2 := fm_len j (c i) (g i)
      have e3 := hm i hi
      rw [Nat.succ_mul] at hn
      rw [List.length_append]
      omega
    · obtain ⟨h3, rfl, rfl⟩ := hp
      obtain ⟨ρ3, hput3, ht, he⟩ := inner j hj
      refine ⟨ρ3, hput3, fun Y hY => ?_⟩
      have hT := ht Y hY
      have step : ∀ b M2, b = c i j ∧ M2 = M4 → if b = true then ∀ Y2, Blk X scope Y2 → GE Y2 ρ3 M2 elt (fun r M3 => j + 1 ≤ n1 i ∧ (fm2 i n1 c g ++ fm j (c i) (g i)) ++ [r] = fm2 i n1 c g ++ fm (j + 1) (c i) (g i) ∧ M3 = M4) else j + 1 ≤ n1 i ∧ fm2 i n1 c g ++ fm j (c i) (g i) = fm2 i n1 c g ++ fm (j + 1) (c i) (g i) ∧ M2 = M4 := by
        rintro b M2 ⟨rfl, rfl⟩
        cases hc : c i j with
        | true =>
          refine iteT fun Y2 hY2 => (he hc Y2 hY2).mono fun r M3 ⟨e1, e2⟩ => ⟨hj, ?_, e2⟩
          rw [fm_succ, if_pos hc, e1, List.append_assoc]
        | false =>
          refine iteF ⟨hj, ?_, rfl⟩
          rw [fm_succ, if_neg (by rw [hc]; exact Bool.false_ne_true)]
      match ifs1, hT with
      | [], hT => exact step true M4 hT
      | [c0], hT => exact (show GT Y ρ3 M4 c0 _ from hT).mono step
    · obtain ⟨h3, rfl, rfl⟩ := hp
      exact ⟨hi, by rw [fm2_succ], rfl⟩
  · obtain ⟨h, rfl, rfl⟩ := hp
    exact fin l
end
/-- a statement up to a middle state, then the rest -/
theorem bseq {X : Cx} {ρ : List SD} {M : Mem} {st : Stmt} {sts : List Stmt} {D : GD} (R : List SD → Mem → Prop) (h : GS X ρ M st { D with nx := R }) (h2 : ∀ ρ' M', R ρ' M' → GB X ρ' M' sts D) : GB X ρ M (st :: sts) D :=
  bcons <| .mk fun B F H σ D' W S s => h B F H σ D' W S ⟨fun ρ1 M1 σ1 F1 H1 q W1 s1 S1 => s.nx ρ1 M1 σ1 F1 H1 (h2 _ _ q) W1 s1 S1, s.rt, s.bk, s.ct⟩
/-! ### a def that is called by its name -/
structure Cal (P : Program) (w : World) (K : PySem.W.Frag) (mg : Str → Option Value) (base : Heap) (k : Nat) (x : Str) (st : Stmt) (ps : List Str) (S : GSpec) : Prop where
  ex : ∃ f fd, Fun K x x st f fd ∧ mg x = some (.ref f) ∧ Binds K fd ps [] ∧ FnG P w K mg base k f fd ps S
theorem Cal.mono {P : Program} {w : World} {K : PySem.W.Frag} {mg : Str → Option Value} {base : Heap} {j k : Nat} {x : Str} {st : Stmt} {ps : List Str} {S : GSpec} (C : Cal P w K mg base j x st ps S) (h : j ≤ k) : Cal P w K mg base k x st ps S := by
  obtain ⟨f, fd, F, m, b, G⟩ := C.ex
  exact ⟨f, fd, F, m, b, G.mono h⟩
section
variable {X : Cx} {ρ : List SD} {M : Mem} {Q : Kn} {pos p : Pos} {e : Expr} {es : List Expr} {k : Nat} {x : Str} {st : Stmt} {ps : List Str} {S : GSpec}
theorem gcal (C : Cal X.prog X.w X.K X.mg X.base k x st ps S) (hgd : X.A.guards = some []) (hr : Room k X.A)
    (h : GA X ρ M (e :: es) fun rs M1 => ∃ Ma Mr, M1.Perm (Ma ++ Mr) ∧ S rs Ma fun r M' => Q r (M' ++ Mr)) (hg : Gl X x := by rfl) (hdb : (x == ("__debug__" : Str)) = false := by decide)
    (he : starEach (e :: es) X.env = (false, eval e X.env) :: starEach es X.env := by rfl) (hpl : (backTo pos (starEach es X.env)).any (·.1) = false := by rfl) : GE X ρ M (.Call (.Name x p) (e :: es) [] pos) Q := by
  obtain ⟨f, fd, F, m, b, G⟩ := C.ex
  exact gcall G hgd hr m F.kp b h hg hdb he hpl
/-- the same, all of its arguments data and nothing given away -/
theorem gcalP (C : Cal X.prog X.w X.K X.mg X.base k x st ps S) (hgd : X.A.guards = some []) (hr : Room k X.A)
    (h : GA X ρ M (e :: es) fun rs M1 => S rs [] fun r M' => Q r (M' ++ M1)) (hg : Gl X x := by rfl) (hdb : (x == ("__debug__" : Str)) = false := by decide)
    (he : starEach (e :: es) X.env = (false, eval e X.env) :: starEach es X.env := by rfl) (hpl : (backTo pos (starEach es X.env)).any (·.1) = false := by rfl) : GE X ρ M (.Call (.Name x p) (e :: es) [] pos) Q :=
  gcal C hgd hr (.mk fun B F H σ Q' W S' s => h B F H σ Q' W S' fun rs M1 vs F1 H1 hx W1 s1 vx => s rs M1 vs F1 H1 ⟨[], M1, .refl _, hx⟩ W1 s1 vx) hg hdb he hpl
/-- lists that nobody knows any more are forgotten -/
theorem gf (h : GE X ρ M e fun r M' => ∃ M2, List.Sublist M2 M' ∧ Q r M2) : GE X ρ M e Q := .mk fun B F H σ Q' W S' s => h B F H σ Q' W S' fun r M' v F' H' q W' s' vv => by
  obtain ⟨M2, sub, q⟩ := q
  exact s r M2 v F' H' q (W'.sub sub) s' vv
theorem tf {QT : Bool → Mem → Prop} (h : GT X ρ M e fun r M' => ∃ M2, List.Sublist M2 M' ∧ QT r M2) : GT X ρ M e QT := .mk fun B F H σ Q' W S' s => h B F H σ Q' W S' fun r M' F' H' q W' s' => by
  obtain ⟨M2, sub, q⟩ := q
  exact s r M2 F' H' q (W'.sub sub) s'
/-- a call that takes data and gives data -/
theorem gcalD (mono : ∀ rs M Kk Kk', S rs M Kk → (∀ r M', Kk r M' → Kk' r M') → S rs M Kk') (C : Cal X.prog X.w X.K X.mg X.base k x st ps S) (hgd : X.A.guards = some []) (hr : Room k X.A)
    (h : GA X ρ M (e :: es) fun rs M1 => S rs [] fun r _ => Q r M1) (hg : Gl X x := by rfl) (hdb : (x == ("__debug__" : Str)) = false := by decide)
    (he : starEach (e :: es) X.env = (false, eval e X.env) :: starEach es X.env := by rfl) (hpl : (backTo pos (starEach es X.env)).any (·.1) = false := by rfl) : GE X ρ M (.Call (.Name x p) (e :: es) [] pos) Q :=
  gf (gcalP C hgd hr (.mk fun B F H σ Q' W S' s => h B F H σ Q' W S' fun rs M1 vs F1 H1 hx W1 s1 vx => s rs M1 vs F1 H1 (mono _ _ _ _ hx fun r M' q => ⟨M1, List.sublist_append_right _ _, q⟩) W1 s1 vx) hg hdb he hpl)
end
end G

namespace G
open PySem PySem.Spec PyProof.Rows L2
/-! ### tables, the search: the mathematics -/
abbrev Tab := List (List Int)
abbrev rowD (r : List Int) : PyData := .list (r.map .int)
abbrev tab (T : Tab) : PyData := .list (T.map rowD)
structure IsTab (T : Tab) (n : Nat) : Prop where
  pos : 0 < T.length
  le : T.length ≤ 8
  npos : 0 < n
  nle : n ≤ 8
  rows : ∀ r ∈ T, r.length = n
abbrev plD (p : Nat × Nat) : PyData := .tuple [.int (p.1 : Nat), .int (p.2 : Nat)]
abbrev enD (p : Int × Int) : PyData := .tuple [.int p.1, .int p.2]
abbrev pld (p : Nat × Nat) : SD := .pu (plD p)
def val (T : Tab) (i j : Nat) : Int := (T.getD i []).getD j 0
def go (T : Tab) (k : Int) : Nat → Nat → Nat → List (Nat × Nat) × (Int × Int)
  | 0, i, c => ([], ((i : Int), (c : Int) - 1))
  | f + 1, i, c => if i < T.length ∧ 0 < c then
      if val T i (c - 1) = k then ([(i, c - 1)], ((i : Int), (c : Int) - 1))
      else if val T i (c - 1) < k then ((i, c - 1) :: (go T k f (i + 1) c).1, (go T k f (i + 1) c).2)
      else ((i, c - 1) :: (go T k f i (c - 1)).1, (go T k f i (c - 1)).2)
    else ([], ((i : Int), (c : Int) - 1))
def run (T : Tab) (n : Nat) (k : Int) : List (Nat × Nat) × (Int × Int) := go T k (T.length + n) 0 n
theorem IsTab.row {T : Tab} {n i : Nat} (t : IsTab T n) (h : i < T.length) : T[i].length = n := t.rows _ (List.getElem_mem h)
theorem IsTab.val {T : Tab} {n i j : Nat} (t : IsTab T n) (hi : i < T.length) (hj : j < n) : G.val T i j = T[i][j]'(by rw [t.row hi]; exact hj) := by
  unfold G.val
  have h : j < T[i].length := by rw [t.row hi]; exact hj
  simp only [List.getD_eq_getElem?_getD, List.getElem?_eq_getElem hi, Option.getD_some, List.getElem?_eq_getElem h]
theorem le1 {α : Type} {a : α} : [a].length ≤ 100000 := (by decide : 1 ≤ 100000)
theorem le2 {α : Type} {a b : α} : [a, b].length ≤ 100000 := (by decide : 2 ≤ 100000)
theorem le3 {α : Type} {a b c : α} : [a, b, c].length ≤ 100000 := (by decide : 3 ≤ 100000)
theorem pld_map (L : List (Nat × Nat)) : L.map pld = (L.map plD).map SD.pu := by rw [List.map_map]; rfl
theorem item_at {ds : List PyData} {i : Nat} (h : i < ds.length) : nth ds i = .pu ds[i] := nth_get (List.getElem?_eq_getElem h)
theorem row_len {r : List Int} {M : Mem} : Len M (.pu (rowD r)) r.length := by
  have z := Len.lst (M := M) (LV.pu (ds := r.map .int))
  rw [List.length_map, List.length_map] at z
  exact z
theorem tab_len {T : Tab} {M : Mem} : Len M (.pu (tab T)) T.length := by
  have z := Len.lst (M := M) (LV.pu (ds := T.map rowD))
  rw [List.length_map, List.length_map] at z
  exact z
theorem tab_ix {T : Tab} {M : Mem} {i : Nat} (h : i < T.length) : Item M (.pu (tab T)) (i : Int) (.pu (rowD T[i])) := .lst (atI_nat (j := i) (by rw [List.getElem?_map, List.getElem?_eq_getElem h]; rfl))
theorem row_ix {r : List Int} {M : Mem} {j : Nat} (h : j < r.length) : Item M (.pu (rowD r)) (j : Int) (.pu (.int r[j])) := .lst (atI_nat (j := j) (by rw [List.getElem?_map, List.getElem?_eq_getElem h]; rfl))
theorem val_ix {T : Tab} {M : Mem} {n i j : Nat} (t : IsTab T n) (hi : i < T.length) (hj : j < n) : Item M (.pu (rowD T[i])) (j : Int) (.pu (.int (val T i j))) := by
  rw [t.val hi hj]
  exact row_ix _
theorem go_len (T : Tab) (k : Int) : ∀ (f i c : Nat), (go T k f i c).1.length ≤ f
  | 0, i, c => Nat.zero_le _
  | f + 1, i, c => by
    unfold go
    have h1 := go_len T k f (i + 1) c
    have h2 := go_len T k f i (c - 1)
    split
    · split
      · exact Nat.succ_le_succ (Nat.zero_le f)
      · split
        · exact Nat.succ_le_succ h1
        · exact Nat.succ_le_succ h2
    · exact Nat.zero_le _
theorem eqv_pl (a b c d : Int) : PyData.eqv (.tuple [.int a, .int b]) (.tuple [.int c, .int d]) = decide ((a, b) = (c, d)) := by
  have e : PyData.eqv (.tuple [.int a, .int b]) (.tuple [.int c, .int d]) = (decide (a = c) && decide (b = d)) := by
    simp [PyData.eqv, PyData.eqvAll]
    rfl
  rw [e]
  by_cases h1 : a = c <;> by_cases h2 : b = d <;> simp [h1, h2]
/-- whether the search for a place's own value ends there -/
def isF (T : Tab) (n i j : Nat) : Bool := decide ((run T n (val T i j)).2 = ((i : Int), (j : Int)))
def foundIn (T : Tab) (n : Nat) : List (Nat × Nat) := (List.range T.length).flatMap fun i => ((List.range n).filter (isF T n i)).map fun j => (i, j)
theorem fm2_found (T : Tab) (n : Nat) : fm2 T.length (fun _ => n) (isF T n) (fun i j => pld (i, j)) = (foundIn T n).map pld := by
  unfold fm2 foundIn fm
  rw [List.map_flatMap]
  congr 1
  funext i
  rw [List.map_map]
  rfl
def turn (T : Tab) (n : Nat) : Tab := (List.range n).map fun j => T.map fun r => r.getD j 0
theorem turn_is {T : Tab} {n : Nat} (t : IsTab T n) : IsTab (turn T n) T.length where
  pos := by simp [turn, t.npos]
  le := by simp [turn, t.nle]
  npos := t.pos
  nle := t.le
  rows := fun r hr => by
    obtain ⟨j, _, e⟩ := List.mem_map.mp hr
    rw [← e, List.length_map]
theorem turn_len (T : Tab) (n : Nat) : (turn T n).length = n := by simp [turn]
theorem col_turn {T : Tab} {n j : Nat} (t : IsTab T n) (h : j < n) : col (T.map fun r => r.map PyData.int) j = (T.map fun r => r.getD j 0).map PyData.int := by
  unfold col
  rw [List.map_map, List.map_map]
  refine List.map_congr_left fun r hr => ?_
  have hl : j < r.length := by rw [t.rows r hr]; exact h
  show ((r.map PyData.int)[j]?).getD .none = PyData.int (r.getD j 0)
  rw [List.getElem?_map, List.getElem?_eq_getElem hl, List.getD_eq_getElem?_getD, List.getElem?_eq_getElem hl]
  rfl
theorem range_map {α β : Type} (L : List α) (d : α) (h : α → β) : (List.range L.length).map (fun i => h (L.getD i d)) = L.map h := by
  apply List.ext_getElem
  · simp
  · intro i h1 h2
    have hi : i < L.length := by simpa using h1
    rw [List.getElem_map, List.getElem_map, List.getElem_range, List.getD_eq_getElem?_getD, List.getElem?_eq_getElem hi, Option.getD_some]
theorem getD_at {α : Type} {L : List α} {d : α} {i : Nat} (h : i < L.length) : L.getD i d = L[i] := by rw [List.getD_eq_getElem?_getD, List.getElem?_eq_getElem h, Option.getD_some]
theorem nth_map {α : Type} (f : α → PyData) {L : List α} {i : Nat} (d : α) (h : i < L.length) : nth (L.map f) i = .pu (f (L.getD i d)) := by
  rw [item_at (by rw [List.length_map]; exact h), List.getElem_map, getD_at h]
theorem found_in {T : Tab} {n : Nat} {p : Nat × Nat} (h : p ∈ foundIn T n) : p.1 < T.length ∧ p.2 < n ∧ isF T n p.1 p.2 = true := by
  obtain ⟨i, hi, h⟩ := List.mem_flatMap.mp h
  obtain ⟨j, hj, e⟩ := List.mem_map.mp h
  obtain ⟨h1, h2⟩ := List.mem_filter.mp hj
  subst e
  exact ⟨List.mem_range.mp hi, List.mem_range.mp h1, h2⟩
theorem found_of {T : Tab} {n i j : Nat} (h1 : i < T.length) (h2 : j < n) (h : isF T n i j = true) : (i, j) ∈ foundIn T n :=
  List.mem_flatMap.mpr ⟨i, List.mem_range.mpr h1, List.mem_map.mpr ⟨j, List.mem_filter.mpr ⟨List.mem_range.mpr h2, h⟩, rfl⟩⟩
theorem found_len {T : Tab} {n : Nat} (t : IsTab T n) : (foundIn T n).length ≤ 64 := by
  have h := fm2_len (n := T.length) (m := n) (n1 := fun _ => n) (isF T n) (fun i j => pld (i, j)) (fun _ _ => Nat.le_refl _) T.length (Nat.le_refl _)
  rw [fm2_found, List.length_map] at h
  exact Nat.le_trans h (Nat.mul_le_mul t.le t.nle)
/-- what the search from below finds, in the order of the turned table -/
def belowOf (T : Tab) (n : Nat) : List (Int × Int) := (foundIn (turn T n) T.length).map fun p => ((p.2 : Int), (p.1 : Int))
def fvals (T : Tab) (n : Nat) : List Int := (foundIn T n).map fun p => val T p.1 p.2
end G

namespace K04
open PySem PySem.Spec PyProof.Rows L2 G
def topS (i : Nat) : Stmt := PySem.Challenge.pw_halftables_k04_whole_tables_that_rise.main.body.getD i (.Pass ⟨0, 0, 0, 0⟩)
abbrev sWhole : Stmt := topS 5
abbrev sPair : Stmt := topS 6
abbrev sCkTab : Stmt := topS 7
abbrev sCkPl : Stmt := topS 8
abbrev sLoL : Stmt := topS 9
abbrev sRow : Stmt := topS 10
abbrev sWithin : Stmt := topS 11
/-- the built-in names that the module leaves alone -/
structure Bl (mg : Str → Option Value) : Prop where
  isi : mg "isinstance" = none
  int : mg "int" = none
  bool : mg "bool" = none
  list : mg "list" = none
  tuple : mg "tuple" = none
  len : mg "len" = none
  all : mg "all" = none
  enum : mg "enumerate" = none
  zip : mg "zip" = none
  sorted : mg "sorted" = none
  set : mg "set" = none
  sum : mg "sum" = none
  min : mg "min" = none
  range : mg "range" = none
theorem sc {N ps : List Str} {st : Stmt} (h1 : (defScope st).isGenerator = false) (h2 : (defScope st).isCoroutine = false) : True := trivial
section
variable {P : Program} {w : World} {K : PySem.W.Frag} {mg : Str → Option Value} {base : Heap} {f : Addr} {fd : FuncData} {k : Nat}
/-! ### is_whole -/
theorem scWhole : FnScope ["thing"] ["thing"] (defScope sWhole) := ⟨rfl, rfl, rfl, by decide +kernel, rfl, by decide +kernel, by decide +kernel⟩
def SWhole : GSpec := fun rs M Kk => ∃ i, rs = [.pu (.int i)] ∧ M = [] ∧ Kk (.pu (.bool true)) []
theorem fWhole (F : Fun K "is_whole" "is_whole" sWhole f fd) (b : Bl mg) : FnG P w K mg base (k + 1) f fd ["thing"] SWhole := by
  refine fnG F scWhole (fun rs M Kk ⟨i, e, _⟩ => by rw [e]; rfl) fun cdv A outer s H hgd hr rs M Kk hS => ?_
  obtain ⟨i, rfl, rfl, q⟩ := hS
  refine bone (sret (gand (gisi b.isi (gv 0 rfl (gty b.int boot_int ⟨"int", "int", true, .int i, rfl, rfl, true, rfl, iteT ?_⟩)))))
  exact gnot (gisi b.isi (gv 0 rfl (gty b.bool boot_bool ⟨"int", "bool", false, .int i, rfl, rfl, false, rfl, q⟩)))
theorem scLoL : FnScope ["thing", "row"] ["thing"] (defScope sLoL) := ⟨rfl, rfl, rfl, by decide +kernel, rfl, by decide +kernel, by decide +kernel⟩
def SLoL : GSpec := fun rs M Kk => ∃ T n, IsTab T n ∧ rs = [.pu (tab T)] ∧ M = [] ∧ ∀ M', Kk (.pu (.bool true)) M'
theorem map_nth (ds : List PyData) : (List.range ds.length).map (nth ds) = ds.map .pu := by
  apply List.ext_getElem
  · simp
  · intro i h1 h2
    rw [List.getElem_map, List.getElem_range, List.getElem_map]
    exact item_at (by simpa using h1)
theorem fLoL (F : Fun K "_is_list_of_lists" "_is_list_of_lists" sLoL f fd) (b : Bl mg) (lg : ∃ t, mg "LONGEST" = some (.int 8 t)) : FnG P w K mg base (k + 1) f fd ["thing"] SLoL := by
  obtain ⟨tk, lg⟩ := lg
  refine fnG F scLoL (fun rs M Kk ⟨T, n, t, e, _⟩ => by rw [e]; rfl) fun cdv A outer s H hgd hr rs M Kk hS => ?_
  obtain ⟨T, n, t, rfl, rfl, q⟩ := hS
  have h1 := t.pos
  have h2 := t.le
  have hl : Len [] (.pu (tab T)) T.length := by
    have z := Len.lst (M := []) (LV.pu (ds := T.map rowD))
    rw [List.length_map, List.length_map] at z
    exact z
  refine bcons (sif (tor (tnot (tval (gisi b.isi (gv 0 rfl (gty b.list boot_list ⟨"list", "list", true, .lst .pu, rfl, rfl, true, rfl, iteF ?_⟩)))))))
  refine tnot (tlele (gi ⟨1, rfl, glen b.len (gv 0 rfl ⟨T.length, hl, _, rfl, ?_⟩)⟩))
  refine iteY (decide_eq_true (by omega)) (gglob lg ⟨8, rfl, ?_⟩)
  refine iteN (by simp; omega) (bnil (bone (sret (gall rfl b.all ?_))))
  refine glc (.name 1) (own := [("row", 1)]) rfl scLoL.nd (blkOk_by (N := ["thing", "row"]) (sc := defScope sLoL) (by decide +kernel)) (fun _ _ _ _ _ => pg_name (i := 1) scLoL.nd rfl (Or.inl rfl)) (by decide) (iglist (gv 0 rfl ⟨T.map rowD, rfl, ?_⟩))
  have hT : ∀ i, i < (T.map rowD).length → ∃ r, nth (T.map rowD) i = .pu (rowD r) := fun i hi => ⟨T[i]'(by simpa using hi), by rw [item_at hi, List.getElem_map]⟩
  refine lc_map (fun _ => .pu (.bool true)) (by rw [List.length_map]; omega) (fun i hi => ?_) fun l => ?_
  · obtain ⟨r, e⟩ := hT i hi
    rw [e]
    refine ⟨_, rfl, ?_⟩
    rintro Y ⟨s', H', C, cl, fp, rfl⟩
    exact gisi b.isi (gv 1 rfl (gty b.list boot_list ⟨"list", "list", true, .lst .pu, rfl, rfl, rfl, rfl⟩))
  · refine ⟨List.replicate T.length true, .mem ?_, ?_⟩
    · rw [List.length_map]
      simp [pbools, List.map_const']
    · rw [show (List.replicate T.length true).all id = true by simp]
      exact q _
theorem scRow : FnScope ["row", "value"] ["row"] (defScope sRow) := ⟨rfl, rfl, rfl, by decide +kernel, rfl, by decide +kernel, by decide +kernel⟩
def SRow : GSpec := fun rs M Kk => ∃ r : List Int, rs = [.pu (rowD r)] ∧ 0 < r.length ∧ r.length ≤ 8 ∧ M = [] ∧ ∀ M', Kk (.pu (.bool true)) M'
theorem fRow (F : Fun K "_is_row" "_is_row" sRow f fd) (b : Bl mg) (lg : ∃ t, mg "LONGEST" = some (.int 8 t)) (CW : Cal P w K mg base k "is_whole" sWhole ["thing"] SWhole) : FnG P w K mg base (k + 1) f fd ["row"] SRow := by
  obtain ⟨tk, lg⟩ := lg
  refine fnG F scRow (fun rs M Kk ⟨r, e, _⟩ => by rw [e]; rfl) fun cdv A outer s H hgd hr rs M Kk hS => ?_
  obtain ⟨r, rfl, h1, h2, rfl, q⟩ := hS
  refine bone (sret (gand (glele (gi ⟨1, rfl, glen b.len (gv 0 rfl ⟨r.length, row_len, _, rfl, ?_⟩)⟩))))
  refine iteY (decide_eq_true (by omega)) (gglob lg ⟨8, rfl, ?_⟩)
  refine ⟨_, rfl, iteY (decide_eq_true (by omega)) (gall rfl b.all ?_)⟩
  refine glc (.name 1) (own := [("value", 1)]) rfl scRow.nd (blkOk_by (N := ["row", "value"]) (sc := defScope sRow) (by decide +kernel)) (fun _ _ _ _ _ => pg_name (i := 1) scRow.nd rfl (Or.inl rfl)) (by decide) (iglist (gv 0 rfl ⟨r.map .int, rfl, ?_⟩))
  refine lc_map (fun _ => .pu (.bool true)) (by rw [List.length_map]; omega) (fun i hi => ?_) fun l => ?_
  · rw [item_at hi, List.getElem_map]
    refine ⟨_, rfl, ?_⟩
    rintro Y ⟨s', H', C, cl, fp, rfl⟩
    exact gcalP CW hgd hr (acons (gv 1 rfl (anil ⟨_, rfl, rfl, rfl, rfl⟩)))
  · refine ⟨List.replicate r.length true, .mem ?_, ?_⟩
    · rw [List.length_map]
      simp [pbools, List.map_const']
    · rw [show (List.replicate r.length true).all id = true by simp]
      exact q _
theorem scCkTab : FnScope ["table", "number", "row"] ["table"] (defScope sCkTab) := ⟨rfl, rfl, rfl, by decide +kernel, rfl, by decide +kernel, by decide +kernel⟩
def SCkTab : GSpec := fun rs M Kk => ∃ T n, IsTab T n ∧ rs = [.pu (tab T)] ∧ M = [] ∧ ∀ M', Kk (.pu .none) M'
theorem fCkTab (F : Fun K "check_table" "check_table" sCkTab f fd) (b : Bl mg) (CL : Cal P w K mg base k "_is_list_of_lists" sLoL ["thing"] SLoL) (CR : Cal P w K mg base k "_is_row" sRow ["row"] SRow) : FnG P w K mg base (k + 1) f fd ["table"] SCkTab := by
  refine fnG F scCkTab (fun rs M Kk ⟨T, n, t, e, _⟩ => by rw [e]; rfl) fun cdv A outer s H hgd hr rs M Kk hS => ?_
  obtain ⟨T, n, t, rfl, rfl, q⟩ := hS
  refine bcons (sif (tnot (tval (gcalP CL hgd hr (acons (gv 0 rfl (anil ⟨T, n, t, rfl, rfl, fun M' => ⟨true, rfl, iteF (bnil (gbforget (List.nil_sublist _) (bone ?_)))⟩⟩)))))))
  refine sfor PassesOwn.never rfl (igenum b.enum (gv 0 rfl ⟨T.map rowD, rfl, fun i ρ' M' => ∃ a b, ρ' = [.pu (tab T), a, b], ⟨_, _, rfl⟩, fun i ρ' M' hi hp => ?_, fun ρ' M' _ => q _⟩))
  obtain ⟨a, b', rfl⟩ := hp
  have hi' : i < T.length := by simpa using hi
  have hT : T[i] ∈ T := List.getElem_mem hi'
  have h0 : T[0]'t.pos ∈ T := List.getElem_mem t.pos
  rw [enu_at hi]
  refine tgtup rfl rfl (tgscons (tgname 1 (tgscons (tgname 2 (tgsnil ?_) scCkTab.nd)) scCkTab.nd))
  rw [List.getElem_map]
  refine bone (sif (tor (tneI (glen b.len (gv 2 rfl ⟨_, row_len, _, rfl, glen b.len (gix (gv 0 rfl (gi ⟨0, .pu (rowD (T[0]'t.pos)), rfl, ?_, _, row_len, _, rfl, iteN ?_ ?_⟩)))⟩)))))
  · exact .lst (atI_nat (j := 0) (by rw [List.getElem?_map, List.getElem?_eq_getElem t.pos]; rfl))
  · simp [t.rows _ hT, t.rows _ h0]
  · refine tnot (tval (gcalP CR hgd hr (acons (gv 2 rfl (anil ⟨_, rfl, ?_, ?_, rfl, fun M' => ⟨true, rfl, iteN rfl (bnil ⟨_, _, rfl⟩)⟩⟩)))))
    · rw [t.rows _ hT]; exact t.npos
    · rw [t.rows _ hT]; exact t.nle
end
end K04

namespace K04
open PySem PySem.Spec PyProof.Rows L2 G
abbrev sFound : Stmt := topS 13
abbrev sPlaces : Stmt := topS 14
abbrev sBelow : Stmt := topS 15
abbrev sAll : Stmt := topS 16
abbrev sWalk : Stmt := topS 17
abbrev sTurned : Stmt := topS 18
abbrev sPF : Stmt := topS 19
section
variable {P : Program} {w : World} {K : PySem.W.Frag} {mg : Str → Option Value} {base : Heap} {f : Addr} {fd : FuncData} {k : Nat}
/-! ### walk -/
abbrev NWalk : List Str := ["table", "key", "looked", "row", "column", "value"]
theorem scWalk : FnScope NWalk ["table", "key"] (defScope sWalk) := ⟨rfl, rfl, rfl, by decide +kernel, rfl, by decide +kernel, by decide +kernel⟩
abbrev runD (R : List (Nat × Nat) × (Int × Int)) : PyData := .tuple [.list (R.1.map plD), enD R.2]
def SWalk : GSpec := fun rs M Kk => ∃ T n key, IsTab T n ∧ rs = [.pu (tab T), .pu (.int key)] ∧ M = [] ∧ ∀ M', Kk (.pu (runD (run T n key))) M'
/-- how the walk stands -/
def WkAt (T : Tab) (n : Nat) (key : Int) (fu : Nat) (ρ : List SD) (M : Mem) : Prop := ∃ (i c : Nat) (L : List (Nat × Nat)) (v : SD) (l : Addr),
  ρ = [.pu (tab T), .pu (.int key), .rf (.ref l), .pu (.int i), .pu (.int ((c : Int) - 1)), v] ∧ M = [(l, .lst (L.map pld))] ∧ i ≤ T.length ∧ c ≤ n ∧ (T.length - i) + c ≤ fu ∧ L.length + fu = T.length + n ∧ L ++ (go T key fu i c).1 = (run T n key).1 ∧ (go T key fu i c).2 = (run T n key).2
def WkEnd (T : Tab) (n : Nat) (key : Int) (ρ : List SD) (M : Mem) : Prop := ∃ (v : SD) (l : Addr), ρ = [.pu (tab T), .pu (.int key), .rf (.ref l), .pu (.int (run T n key).2.1), .pu (.int (run T n key).2.2), v] ∧ M = [(l, .lst ((run T n key).1.map pld))]
theorem fWalk (F : Fun K "walk" "walk" sWalk f fd) (b : Bl mg) : FnG P w K mg base (k + 1) f fd ["table", "key"] SWalk := by
  refine fnG F scWalk (fun rs M Kk ⟨T, n, key, t, e, _⟩ => by rw [e]; rfl) fun cdv A outer s H hgd hr rs M Kk hS => ?_
  obtain ⟨T, n, key, t, rfl, rfl, q⟩ := hS
  refine bcons (sset 2 scWalk.nd (glst (anil ⟨Nat.zero_le _, fun l => ?_⟩)))
  refine bcons (sset 3 scWalk.nd (gi ?_))
  refine bcons (sset 4 scWalk.nd (gsub (glen b.len (gix (gv 0 rfl (gi ⟨(0 : Nat), _, rfl, tab_ix t.pos, _, row_len, _, rfl, gi ⟨1, rfl, ?_⟩⟩))))))
  rw [t.row t.pos]
  refine bseq (WkEnd T n key) (swhile PassesOwn.never (WkAt T n key) (T.length + n) ⟨0, n, [], .un, l, rfl, rfl, Nat.zero_le _, Nat.le_refl _, by omega, by simp, rfl, rfl⟩ fun fu ρ' M' h => ?_) fun ρ' M' h => ?_
  · obtain ⟨i, c, L, v, l, rfl, rfl, hi, hc, hf, hL, e1, e2⟩ := h
    refine tand (tlt (gv 3 rfl ⟨_, rfl, glen b.len (gv 0 rfl ⟨_, tab_len, _, rfl, ?_⟩)⟩))
    have done : ¬ (i < T.length ∧ 0 < c) → WkEnd T n key [.pu (tab T), .pu (.int key), .rf (.ref l), .pu (.int i), .pu (.int ((c : Int) - 1)), v] [(l, .lst (L.map pld))] := fun hn => by
      have g : go T key fu i c = ([], ((i : Int), (c : Int) - 1)) := by
        cases fu with
        | zero => rfl
        | succ fu =>
          unfold go
          rw [if_neg hn]
      rw [g] at e1 e2
      simp only [List.append_nil] at e1
      exact ⟨v, l, by rw [← e2], by rw [← e1]⟩
    refine iteB (fun h => ?_) fun h => done ?_
    · refine tge (gv 4 rfl ⟨_, rfl, gi ⟨0, rfl, iteB (fun h2 => ?_) fun h2 => done ?_⟩⟩)
      · have h1 : i < T.length := by simpa using h
        have h3 : 0 < c := by
          have := of_decide_eq_true h2
          omega
        obtain ⟨fu, rfl⟩ : ∃ f', fu = f' + 1 := ⟨fu - 1, by omega⟩
        have hj : c - 1 < n := by omega
        have hcc : (c : Int) - 1 = ((c - 1 : Nat) : Int) := by omega
        have g : go T key (fu + 1) i c = if val T i (c - 1) = key then ([(i, c - 1)], ((i : Int), (c : Int) - 1)) else if val T i (c - 1) < key then ((i, c - 1) :: (go T key fu (i + 1) c).1, (go T key fu (i + 1) c).2) else ((i, c - 1) :: (go T key fu i (c - 1)).1, (go T key fu i (c - 1)).2) := by
          show (if i < T.length ∧ 0 < c then _ else _) = _
          rw [if_pos ⟨h1, h3⟩]
        rw [g] at e1 e2
        have h8 := t.le
        have h9 := t.nle
        rw [hcc] at e1 e2 ⊢
        refine bcons (sexpr (gapp (gv 2 rfl ⟨l, _, rfl, List.mem_cons_self, gtup (acons (gv 3 rfl (acons (gv 4 rfl (anil ⟨[.int i, .int ((c - 1 : Nat) : Int)], rfl, le2, L.map pld, [], [], rfl, ?_, ?_⟩)))))⟩)))
        · rw [List.length_map]
          omega
        refine bcons (sset 5 scWalk.nd (gix (gix (gv 0 rfl (gv 3 rfl ⟨(i : Nat), _, rfl, tab_ix h1, gv 4 rfl ⟨((c - 1 : Nat) : Int), _, rfl, val_ix t h1 hj, ?_⟩⟩)))))
        refine bcons (sif (teqI (gv 5 rfl ⟨_, rfl, gv 1 rfl ⟨_, rfl, iteB (fun hv => bone (sbreak ?_)) fun hv => bnil (bone (sif (tlt (gv 5 rfl ⟨_, rfl, gv 1 rfl ⟨_, rfl, iteB (fun hv2 => bone ?_) fun hv2 => bone ?_⟩⟩))))⟩⟩)))
        · rw [if_pos (of_decide_eq_true hv)] at e1 e2
          refine ⟨.pu (.int (val T i (c - 1))), l, ?_, ?_⟩
          · rw [← e2]
            rfl
          · rw [← e1, List.map_append]
            rfl
        · have hv := of_decide_eq_false hv
          rw [if_neg hv, if_pos (of_decide_eq_true hv2)] at e1 e2
          refine saug 3 scWalk.nd rfl (gi ⟨1, rfl, fu, Nat.lt_succ_self fu, i + 1, c, L ++ [(i, c - 1)], .pu (.int (val T i (c - 1))), l, ?_, ?_, by omega, hc, by omega, ?_, ?_, e2⟩)
          · rw [hcc]
            rfl
          · rw [List.map_append]
            rfl
          · rw [List.length_append, List.length_singleton]
            omega
          · rw [← e1, List.append_assoc]
            rfl
        · have hv := of_decide_eq_false hv
          rw [if_neg hv, if_neg (of_decide_eq_false hv2)] at e1 e2
          refine saugs 4 scWalk.nd rfl (gi ⟨1, rfl, fu, Nat.lt_succ_self fu, i, c - 1, L ++ [(i, c - 1)], .pu (.int (val T i (c - 1))), l, rfl, ?_, hi, by omega, by omega, ?_, ?_, e2⟩)
          · rw [List.map_append]
            rfl
          · rw [List.length_append, List.length_singleton]
            omega
          · rw [← e1, List.append_assoc]
            rfl
      · have := of_decide_eq_false h2
        omega
    · have := of_decide_eq_false h
      omega
  · obtain ⟨v, l, rfl, rfl⟩ := h
    rw [pld_map]
    exact bone (sret (gtup (acons (gz (gv 2 rfl ⟨l, (run T n key).1.map plD, [], rfl, rfl, acons (gtup (acons (gv 3 rfl (acons (gv 4 rfl (anil ⟨_, rfl, le2, anil ⟨[.list ((run T n key).1.map plD), enD (run T n key).2], rfl, le2, q _⟩⟩))))))⟩)))))
/-! ### turned -/
theorem scTurned : FnScope ["table", "column"] ["table"] (defScope sTurned) := ⟨rfl, rfl, rfl, by decide +kernel, rfl, by decide +kernel, by decide +kernel⟩
def STurned : GSpec := fun rs M Kk => ∃ T n, IsTab T n ∧ rs = [.pu (tab T)] ∧ M = [] ∧ ∀ M', Kk (.pu (tab (turn T n))) M'
theorem fTurned (F : Fun K "turned" "turned" sTurned f fd) (b : Bl mg) : FnG P w K mg base (k + 1) f fd ["table"] STurned := by
  refine fnG F scTurned (fun rs M Kk ⟨T, n, t, e, _⟩ => by rw [e]; rfl) fun cdv A outer s H hgd hr rs M Kk hS => ?_
  obtain ⟨T, n, t, rfl, rfl, q⟩ := hS
  refine bone (sret (gz (glc (.name 1) (own := [("column", 1)]) rfl scTurned.nd (blkOk_by (N := ["table", "column"]) (sc := defScope sTurned) (by decide +kernel)) (fun _ _ _ _ _ => pg_name (i := 1) scTurned.nd rfl (Or.inl rfl)) (by decide) (igzips b.zip (gv 0 rfl ⟨T.map fun r => r.map .int, n, ?_, ?_, ?_, ?_, ?_⟩)))))
  · rw [List.map_map]
    rfl
  · rw [List.length_map]
    exact t.pos
  · rw [List.length_map]
    exact t.le
  · intro r hr
    obtain ⟨r', hr', e⟩ := List.mem_map.mp hr
    rw [← e, List.length_map]
    exact t.rows _ hr'
  · refine lc_map (fun j => .pu (rowD (T.map fun r => r.getD j 0))) (Nat.le_trans t.nle (by decide)) (fun j hj => ?_) fun l => ?_
    · rw [col_turn t hj]
      refine ⟨_, rfl, ?_⟩
      rintro Y ⟨s', H', C, cl, fp, rfl⟩
      exact gz (glist b.list (gv 1 rfl ⟨_, .tup, fun l => ⟨l, _, [], rfl, rfl, rfl, rfl⟩⟩))
    · refine ⟨l, (turn T n).map rowD, [], rfl, ?_, q _⟩
      unfold turn
      rw [List.map_map, List.map_map]
      rfl
/-! ### _places_found -/
abbrev NPF : List Str := ["table", "row", "values", "column", "value"]
theorem scPF : FnScope NPF ["table"] (defScope sPF) := ⟨rfl, rfl, rfl, by decide +kernel, rfl, by decide +kernel, by decide +kernel⟩
def SPF : GSpec := fun rs M Kk => ∃ T n, IsTab T n ∧ rs = [.pu (tab T)] ∧ M = [] ∧ ∀ l, Kk (.rf (.ref l)) [(l, .lst ((foundIn T n).map pld))]
theorem walk_mono : ∀ rs M Kk Kk', SWalk rs M Kk → (∀ r M', Kk r M' → Kk' r M') → SWalk rs M Kk' := fun rs M Kk Kk' ⟨T, n, key, t, e, m, q⟩ h => ⟨T, n, key, t, e, m, fun M' => h _ _ (q M')⟩
theorem fPF (F : Fun K "_places_found" "_places_found" sPF f fd) (b : Bl mg) (CW : Cal P w K mg base k "walk" sWalk ["table", "key"] SWalk) : FnG P w K mg base (k + 1) f fd ["table"] SPF := by
  refine fnG F scPF (fun rs M Kk ⟨T, n, t, e, _⟩ => by rw [e]; rfl) fun cdv A outer s H hgd hr rs M Kk hS => ?_
  obtain ⟨T, n, t, rfl, rfl, q⟩ := hS
  have h8 := t.le
  have h9 := t.nle
  refine bone (sret (glc2 (.pair 1 2) (.pair 3 4) [3, 4] (own := [("row", 1), ("values", 2), ("column", 3), ("value", 4)]) rfl scPF.nd (blkOk_by (N := NPF) (sc := defScope sPF) (by decide +kernel)) (by decide) (fun _ _ _ _ _ => ?_) (fun _ _ _ _ _ => ?_) (by decide) (by decide) (igenum b.enum (gv 0 rfl ⟨T.map rowD, rfl, ?_⟩))))
  · exact pg_tup rfl (pgs_cons (pg_name (i := 1) scPF.nd rfl (.inl rfl)) (pgs_cons (pg_name (i := 2) scPF.nd rfl (.inl rfl)) pgs_nil))
  · exact pg_tup rfl (pgs_cons (pg_name (i := 3) scPF.nd rfl (.inl rfl)) (pgs_cons (pg_name (i := 4) scPF.nd rfl (.inl rfl)) pgs_nil))
  rw [List.length_map]
  refine lc2_fm (m := n) (fun _ => n) (fun i => enu ((T.getD i []).map .int)) (isF T n) (fun i j => pld (i, j)) (fun _ _ => Nat.le_refl _) ?_ (fun i hi => ?_) fun l => ?_
  · exact Nat.lt_of_le_of_lt (Nat.mul_le_mul (Nat.succ_le_succ h8) h9) (by decide)
  · have hl : i < (T.map rowD).length := by rw [List.length_map]; exact hi
    have eT : T.getD i [] = T[i] := by rw [List.getD_eq_getElem?_getD, List.getElem?_eq_getElem hi, Option.getD_some]
    rw [enu_at hl, List.getElem_map, eT]
    refine ⟨_, rfl, ?_⟩
    rintro Y ⟨s', H', C, cl, fp, rfl⟩
    refine igenum b.enum (gv 2 rfl ⟨T[i].map .int, rfl, ?_, rfl, rfl, fun j hj => ?_⟩)
    · rw [List.length_map]
      exact t.row hi
    · have hj2 : j < (T[i].map PyData.int).length := by rw [List.length_map, t.row hi]; exact hj
      rw [enu_at hj2, List.getElem_map, ← t.val hi hj]
      refine ⟨_, rfl, ?_, fun _ => ?_⟩
      · rintro Y ⟨s2, H2, C2, cl2, fp2, rfl⟩
        have hu : A.units + 3 + 64 < cLine := by
          have z : A.units + 3 + 16 * k + 200 < cLine := hr.un
          omega
        refine gts_one (teqD hu (gix (gcalD walk_mono CW hgd hr (acons (gv 0 rfl (acons (gv 4 rfl (anil ⟨T, n, _, t, rfl, rfl, fun M' => gi ⟨(1 : Nat), _, rfl, .tup (atI_nat (j := 1) rfl), enD (run T n (val T i j)).2, .pu _, rfl, gtup (acons (gv 1 rfl (acons (gv 3 rfl (anil ⟨[.int i, .int j], rfl, le2, _, .pu _, .pu _, rfl, ?_, rfl⟩)))))⟩⟩))))))))
        rw [eqv_pl]
        rfl
      · rintro Y ⟨s2, H2, C2, cl2, fp2, rfl⟩
        exact gtup (acons (gv 1 rfl (acons (gv 3 rfl (anil ⟨[.int i, .int j], rfl, le2, rfl, rfl⟩)))))
  · rw [fm2_found]
    exact q l
end
end K04

namespace G
open PySem PySem.Spec PyProof.Rows L2
/-! ### sorted(pairs of ints) -/
abbrev end_ (p : Int × Int) : SD := .pu (enD p)
abbrev PrH (H : Hp) (as : List Addr) (ps : List (Int × Int)) : Prop := Paired (fun (a : Addr) (p : Int × Int) => H a = some (HO.tup [V.int p.1, V.int p.2])) as ps
def lexLe (p q : Int × Int) : Prop := p.1 < q.1 ∨ (p.1 = q.1 ∧ p.2 ≤ q.2)
def prA (H : Hp) (a : Addr) : Int × Int := match H a with
  | some (.tup [.int i, .int j]) => (i, j)
  | _ => (0, 0)
def prV (H : Hp) : Value → Int × Int
  | .ref a => prA H a
  | _ => (0, 0)
theorem prA_of {H : Hp} {a : Addr} {p : Int × Int} (h : H a = some (HO.tup [V.int p.1, V.int p.2])) : prA H a = p := by
  unfold prA
  rw [h]
theorem prH_map {H : Hp} : ∀ {as : List Addr} {ps : List (Int × Int)}, PrH H as ps → as.map (prA H) = ps
  | _, _, .nil => rfl
  | _, _, .cons h t => by rw [List.map_cons, prA_of h, prH_map t]
theorem prH_mem {H : Hp} : ∀ {as : List Addr} {ps : List (Int × Int)}, PrH H as ps → ∀ a ∈ as, H a = some (HO.tup [V.int (prA H a).1, V.int (prA H a).2])
  | _, _, .cons h t, a, ha => by
    rcases List.mem_cons.mp ha with e | e
    · rw [e, prA_of h]
      exact h
    · exact prH_mem t a e
theorem prH_mk {H : Hp} : ∀ {as : List Addr}, (∀ a ∈ as, H a = some (HO.tup [V.int (prA H a).1, V.int (prA H a).2])) → PrH H as (as.map (prA H))
  | [], _ => .nil
  | a :: as, h => .cons (h a List.mem_cons_self) (prH_mk fun b hb => h b (List.mem_cons_of_mem _ hb))
theorem refs_perm {as : List Addr} {out : List Value} (h : out.Perm (as.map Value.ref)) : ∃ bs : List Addr, out = bs.map Value.ref ∧ bs.Perm as := by
  have g : ∀ l : List Value, (∀ v ∈ l, ∃ a, v = Value.ref a) → ∃ bs : List Addr, l = bs.map Value.ref := by
    intro l
    induction l with
    | nil => exact fun _ => ⟨[], rfl⟩
    | cons v l ih =>
      intro hl
      obtain ⟨a, rfl⟩ := hl v List.mem_cons_self
      obtain ⟨bs, rfl⟩ := ih fun u hu => hl u (List.mem_cons_of_mem _ hu)
      exact ⟨a :: bs, rfl⟩
  obtain ⟨bs, rfl⟩ := g out fun v hv => by
    obtain ⟨a, _, e⟩ := List.mem_map.mp (h.mem_iff.mp hv)
    exact ⟨a, e.symm⟩
  refine ⟨bs, rfl, ?_⟩
  have q := h.map fun v => match v with
    | Value.ref a => a
    | _ => 0
  rw [List.map_map, List.map_map] at q
  have e : ∀ l : List Addr, l.map ((fun v => match v with | Value.ref a => a | _ => 0) ∘ Value.ref) = l := fun l => by
    have z : ((fun v => match v with | Value.ref a => a | _ => 0) ∘ Value.ref : Addr → Addr) = id := rfl
    rw [z, List.map_id]
  rwa [e, e] at q
section
variable {X : Cx} {ρ : List SD} {M : Mem} {Q : Kn} {pos : Pos} {e : Expr}
def rSortPl : List V → Hp → VK → Prop := fun vs H Q => ∃ (l : Addr) (as : List Addr) (ps : List (Int × Int)), vs = [.ref l] ∧ H l = some (.lst (as.map V.ref)) ∧ PrH H as ps ∧
  ∀ (bs : List Addr) (d : Addr), bs.Perm as → (bs.map (prA H)).Pairwise lexLe → H d = none → Q (.ref d) (upd H d (.lst (bs.map V.ref)))
theorem vals_refs : ∀ bs : List Addr, Vals (bs.map V.ref) (bs.map Value.ref)
  | [] => .nil
  | b :: bs => .cons rfl (vals_refs bs)
theorem cr_sortPl : CallR X (.builtin "sorted") rSortPl := by
  intro pins s σ H vs us Q I r h
  obtain ⟨l, as, ps, rfl, hl, hp, q⟩ := h
  rw [Vals.ref1 r]
  obtain ⟨hz, its, n, g1, g2, g3⟩ := I.lstM hl
  have eits := refs_of g1
  subst eits
  have L : LAt s.heap l (as.map Value.ref) := ⟨n, g3⟩
  have zz : (as.map Value.ref).length ≤ sizeLine := by
    rw [List.length_map]
    rw [List.length_map] at hz
    exact hz
  refine SrtO.sorted_pairsO (k := prV H) L.isList zz (fun v hv => ?_) fun h' d out b1 b2 kp hd hat => ?_
  · obtain ⟨a, ha, rfl⟩ := List.mem_map.mp hv
    obtain ⟨z, its2, r2, o, ho, hc, m, hd⟩ := I.hok _ _ (prH_mem hp a ha)
    cases r2 with
    | cons r3 r4 =>
      cases r4 with
      | cons r4 r5 =>
        cases r5
        obtain ⟨t1, rfl⟩ := r3
        obtain ⟨t2, rfl⟩ := r4
        exact ⟨a, o, t1, t2, m, rfl, ho, hc, hd⟩
  · obtain ⟨bs, rfl, pb⟩ := refs_perm b2.perm
    obtain ⟨c, hc⟩ := hat
    have lb : (bs.map V.ref).length ≤ sizeLine := by
      rw [List.length_map, pb.length_eq]
      rw [List.length_map] at zz
      exact zz
    refine ⟨.ref d, upd H d (.lst (bs.map V.ref)), I.laid (t' := s.toks) kp hd ⟨lb, bs.map Value.ref, c, vals_refs bs, hc⟩, rfl, q bs d pb ?_ (I.hok.fresh hd)⟩
    rw [List.pairwise_map]
    rw [SrtO.Srtd, List.pairwise_map] at b1
    refine b1.imp fun {a b} h => ?_
    have h := SrtO.lexB_no.mp h
    show lexLe (prA H a) (prA H b)
    have h : ¬ ((prA H b).1 < (prA H a).1 ∨ ((prA H b).1 = (prA H a).1 ∧ (prA H b).2 < (prA H a).2)) := h
    unfold lexLe
    omega
theorem pairs_in {F H : Hp} (fh : Same F H) : ∀ {vs : List V} {ps : List (Int × Int)}, Paired (VOk F) vs (ps.map end_) → ∃ as, vs = as.map V.ref ∧ PrH H as ps ∧ PrH F as ps
  | _, [], .nil => ⟨[], rfl, .nil, .nil⟩
  | _, p :: ps, .cons h t => by
    obtain ⟨as, e, a1, a2⟩ := pairs_in fh t
    have h : Dt F _ (enD p) := h
    cases h with
    | tup h1 h2 =>
      cases h2 with
      | cons x y =>
        cases x
        cases y with
        | cons x y =>
          cases x
          cases y
          subst e
          exact ⟨_ :: as, rfl, .cons (fh _ _ h1) a1, .cons h1 a2⟩
theorem pairs_out {F H : Hp} : ∀ {bs : List Addr} {qs : List (Int × Int)}, PrH F bs qs → Paired (VOk F) (bs.map V.ref) (qs.map end_)
  | _, _, .nil => .nil
  | _, _, .cons h t => .cons (show Dt F (.ref _) (enD _) from .tup h (.cons (.int _) (.cons (.int _) .nil))) (pairs_out (H := H) t)
/-- sorted(xs) of pairs of ints: a new list -/
theorem gsortedP {p : Pos} (hm : X.mg "sorted" = none) (h : GE X ρ M e fun x M1 => ∃ ps : List (Int × Int), LV M1 x (ps.map end_) ∧ ∀ (l : Addr) (qs : List (Int × Int)), qs.Perm ps → qs.Pairwise lexLe → Q (.rf (.ref l)) ((l, .lst (qs.map end_)) :: M1)) (hg : Gl X "sorted" := by rfl) (he : starEach [e] X.env = [(false, eval e X.env)] := by rfl) : GE X ρ M (.Call (.Name "sorted" p) [e] [] pos) Q :=
  gcb cr_sortPl hm PyProof.Rows.boot_sorted (acons (h.mono fun x M1 ⟨ps, lv, q⟩ => anil fun B F H vs Q' W hvs s => by
    obtain ⟨v, rfl, hv⟩ := p1 hvs
    obtain ⟨p, ws, rfl, hp, pr⟩ := lv.at W hv
    obtain ⟨as, rfl, a1, a2⟩ := pairs_in W.fh pr
    refine ⟨p, as, ps, rfl, hp, a1, fun bs d h1 h3 hd => ?_⟩
    have same : ∀ a ∈ bs, F a = some (HO.tup [V.int (prA H a).1, V.int (prA H a).2]) := fun a ha => by
      have ha := h1.mem_iff.mp ha
      have e1 := prH_mem a2 a ha
      have e2 := prH_mem a1 a ha
      have e3 := W.fh _ _ e1
      rw [e2] at e3
      rw [e1, ← e3]
    have hb : ∀ {l : List Addr}, (∀ a ∈ l, F a = some (HO.tup [V.int (prA H a).1, V.int (prA H a).2])) → PrH F l (l.map (prA H)) := by
      intro l
      induction l with
      | nil => exact fun _ => .nil
      | cons a l ih => exact fun h => .cons (h a List.mem_cons_self) (ih fun b hb => h b (List.mem_cons_of_mem _ hb))
    have pm : (bs.map (prA H)).Perm ps := by
      rw [← prH_map a1]
      exact h1.map _
    exact s _ _ _ F _ (q d _ pm h3) (W.newl hd (pairs_out (H := H) (hb same))) (Same.refl F) rfl) he) hg (he := he)
end
end G

namespace G
open PySem PySem.Spec PyProof.Rows L2
/-! ### {e for x in xs for y in ys if ..}: ints -/
abbrev sc2 (elt t0 i0 t1 i1 : Expr) (ifs1 : List Expr) (scope : Scope) (pos : Pos) : Expr := .SetComp elt [⟨t0, i0, [], 0⟩, ⟨t1, i1, ifs1, 0⟩] scope pos
section
variable {elt t0 i0 t1 i1 : Expr} {ifs1 : List Expr} {scope : Scope} {pos : Pos} {it acc : Value} {env : Env}
theorem sc_turn0 : compTurn (sc2 elt t0 i0 t1 i1 ifs1 scope pos) 0 it acc env = (do
    standAt i0.pos
    match ← pyNext it with
    | none => pure (.done .next)
    | some v => do
      letOwnedTupleGo t0 it v
      assign t0 env v
      let x ← eval i1 env
      standAt i1.pos
      let x ← foldedSetIterable i1 env x
      let _ ← runOwn (.compStart (sc2 elt t0 i0 t1 i1 ifs1 scope pos) 1 (← holding [x] (pyIter x)) acc env) env
      again (.compLoop (sc2 elt t0 i0 t1 i1 ifs1 scope pos) 0 it acc env)) := by rfl
theorem sc_turn1 : compTurn (sc2 elt t0 i0 t1 i1 ifs1 scope pos) 1 it acc env = (do
    standAt i1.pos
    match ← pyNext it with
    | none => pure (.done .next)
    | some v => do
      letOwnedTupleGo t1 it v
      assign t1 env v
      let ok ← forIn ifs1 true fun c r => if r = true then do let ok ← isTrue c env (eval c env); pure (ForInStep.yield ok) else pure (ForInStep.yield r)
      if ok then
        (do let v ← eval elt env; standAt elt.pos; let _ ← call (.builtin "set.add") [acc, v])
      again (.compLoop (sc2 elt t0 i0 t1 i1 ifs1 scope pos) 1 it acc env)) := by rfl
end
section
variable {Y : Cx} {pins : List (Addr × Obj)} {σ : L2.St} {H : Hp} {s : Shared} {i : Nat} {tg : Expr} {J : It} {fp : List Addr} {it : Addr} {tn : Nat → Heap → Prop} {g : TG}
/-- one turn of a walk: at its end, or an item that is stored -/
theorem turnT {α : Type} {A0 : Sem α} {go : Sem α} {R : α → Shared → Prop} {Ex : Value → Shared → Prop} (hc : Y.calm = true) (T : Turn Y.prog Y.w Y.K tg J fp it tn) (pg : PG Y tg g) (hx : Y.xe = fun _ _ => False)
    (I : Inv Y pins σ H s) (hf : ∀ b ∈ fp, FpOk Y pins H b) (st : tn i s.heap)
    (h : (J.stop i H ∧ ∀ s', Inv Y pins σ H s' → wpAny (model Y.prog Y.w) Y.A A0 R Ex s') ∨
      (J.go i H ∧ ∃ G2 : L2.St → Hp → Prop, (∀ x H', J.yld i H x H' → g x σ H' G2) ∧ ∀ σ2 H2 (s7 s2 : Shared), G2 σ2 H2 → tn (i + 1) s7.heap → Inv Y (pins ++ pinsAt fp s7.heap) σ2 H2 s2 → wpAny (model Y.prog Y.w) Y.A go R Ex s2)) :
    wpAny (model Y.prog Y.w) Y.A (do
      match ← pyNext (.ref it) with
      | none => A0
      | some v => do
        letOwnedTupleGo tg (.ref it) v
        assign tg Y.env v
        go) R Ex s := by
  rcases h with ⟨stop, h⟩ | ⟨gn, G2, h, h'⟩
  · refine wpAny_bind (thnF (T.done Y rfl rfl rfl hc i pins s σ H (fun _ _ => False) I hf st stop) fun r s1 ⟨hr, I1⟩ => ?_)
    subst hr
    exact h s1 I1
  · refine wpAny_bind (thnF (T.item Y rfl rfl rfl hc i pins s σ H (fun _ _ => False) I hf st gn) fun r s1 ⟨u, hr, h1⟩ => ?_)
    subst hr
    refine wpAny_bind (thnF h1 fun _ s2 ⟨x, H2, I2, r2, y2, st2, n2⟩ => ?_)
    have I3 := I2.pinned (fun b hb => ⟨n2 b hb, (hf b hb).2⟩) (T.obj _ _ st2)
    have run := pg.run _ s2 σ H2 x u _ I3 r2 (h x H2 y2)
    rw [hx] at run
    exact wpAny_bind (thnF run fun _ s3 ⟨σ3, H3, I4, q⟩ => h' σ3 H3 s2 s3 q st2 I4)
/-- behind the turn: the walk's own objects are as they were -/
theorem turn_back {s7 s2 : Shared} {σ2 : L2.St} {H2 : Hp} (T : Turn Y.prog Y.w Y.K tg J fp it tn) (st : tn i s7.heap) (I : Inv Y (pins ++ pinsAt fp s7.heap) σ2 H2 s2) : tn i s2.heap ∧ ∀ b ∈ fp, H2 b = none := by
  have keep : ∀ b ∈ fp, ∀ o, s7.heap.get? b = some o → s2.heap.get? b = some o ∧ H2 b = none := fun b hb o e => by
    have z := I.pin (b, o) (List.mem_append_right _ (List.mem_append_right _ (mem_pinsAt hb e)))
    exact ⟨z.1, z.2.1⟩
  refine ⟨T.keep _ _ _ st fun b hb o e => (keep b hb o e).1, fun b hb => ?_⟩
  obtain ⟨o, e, _⟩ := T.obj _ _ st b hb
  exact (keep b hb o e).2
end

/-- what the inner clause's items ask of the set at D -/
def AddK (w : World) (D : Addr) (Nx : Hp → Prop) : VK := fun y H => ∃ (k : Int) (S : Int → Bool) (n : Nat), y = .int k ∧ H D = some (SetO w D S n) ∧ n + 1 < scanBound ∧ Nx (upd H D (SetO w D (fun j => S j || decide (j = k)) (if S k = true then n else n + 1)))
/-- the inner walk -/
def InW (w : World) (D : Addr) (g1 : TG) (tt1 : TT) (te : TE) (vs1 : List Nat) (σ2 : L2.St) (Nx : Hp → Prop) : It → Hp → Prop := fun J1 H4 => ∃ W1 : Nat → Nat → Hp → Prop, (∃ m, W1 0 m H4) ∧ ∀ j k H, W1 j k H → (J1.stop j H ∧ Nx H) ∨ (J1.go j H ∧ ∃ Nx1 : Hp → Prop, (∀ H', Nx1 H' → ∃ k', k' < k ∧ W1 (j + 1) k' H') ∧
  ∀ x H', J1.yld j H x H' → g1 x (wipe σ2 vs1) H' fun σ3 H5 => wipe σ3 vs1 = wipe σ2 vs1 ∧ tt1 σ3 H5 fun b H6 => if b = true then te σ3 H6 (AddK w D Nx1) else Nx1 H6)
/-- the outer walk -/
def OutW (w : World) (D : Addr) (g : TG) (wi1 : TI) (g1 : TG) (tt1 : TT) (te : TE) (vs vs1 : List Nat) (σ : L2.St) (Fin : Hp → Prop) (J : It) (W : Nat → Nat → Hp → Prop) : Prop := ∀ i m H, W i m H → (J.stop i H ∧ Fin H) ∨ (J.go i H ∧ ∃ Nx : Hp → Prop, (∀ H', Nx H' → ∃ m', m' < m ∧ W (i + 1) m' H') ∧
  ∀ x H', J.yld i H x H' → g x (wipe σ vs) H' fun σ2 H2 => wipe σ2 vs = wipe σ vs ∧ wi1 σ2 H2 (InW w D g1 tt1 te vs1 σ2 Nx))
section
variable {Y : Cx} {pins : List (Addr × Obj)} {σ σ2 : L2.St} {H : Hp} {s : Shared} {i : Nat} {elt t0 i0 t1 i1 : Expr} {ifs1 : List Expr} {scope : Scope} {pos : Pos} {D : Addr} {J J1 : It} {fp fp1 : List Addr} {it it1 : Addr} {tn tn1 : Nat → Heap → Prop} {g g1 : TG} {wi1 : TI} {tt1 : TT} {te : TE} {vs vs1 : List Nat} {R : Result → Shared → Prop}
theorem sc_add {y : V} {u : Value} {Nx : Hp → Prop} {Q : Shared → Prop} (I : Inv Y pins σ H s) (r : RelV y u) (h : AddK Y.w D Nx y H) (hq : ∀ s' H', Inv Y pins σ H' s' → Nx H' → Q s') : wpAny (model Y.prog Y.w) Y.A (call (.builtin "set.add") [.ref D, u]) (fun _ s' => Q s') Y.xe s := by
  obtain ⟨k, S, n, rfl, hD, hn, nx⟩ := h
  exact thn (mt_sadd pins s σ H (.ref D) [.int k] (.ref D) [u] (fun _ H' => Nx H') I rfl (.cons r .nil) ⟨D, k, S, n, rfl, rfl, hD, hn, nx⟩) fun _ s' ⟨_, H', I', _, q⟩ => hq s' H' I' q
/-- the loop of the inner clause -/
theorem sc_inner (hc : Y.calm = true) (hx : Y.xe = fun _ _ => False) (T1 : Turn Y.prog Y.w Y.K t1 J1 fp1 it1 tn1) (pg1 : PG Y t1 g1) (pt1 : PTs Y ifs1 tt1) (pe : PE Y elt te) {Nx : Hp → Prop} {W1 : Nat → Nat → Hp → Prop}
    (walk : ∀ j k H, W1 j k H → (J1.stop j H ∧ Nx H) ∨ (J1.go j H ∧ ∃ Nx1 : Hp → Prop, (∀ H', Nx1 H' → ∃ k', k' < k ∧ W1 (j + 1) k' H') ∧ ∀ x H', J1.yld j H x H' → g1 x (wipe σ2 vs1) H' fun σ3 H5 => wipe σ3 vs1 = wipe σ2 vs1 ∧ tt1 σ3 H5 fun b H6 => if b = true then te σ3 H6 (AddK Y.w D Nx1) else Nx1 H6))
    (ok : ∀ (b : Addr), b ∈ fp1 → ∀ H' : Hp, H' b = none → FpOk Y pins H' b) (fin : ∀ s' H', Inv Y pins (wipe σ2 vs1) H' s' → Nx H' → R (.ok .next) s') :
    ∀ m j H s, W1 j m H → Inv Y pins (wipe σ2 vs1) H s → tn1 j s.heap → (∀ b ∈ fp1, H b = none) → codeAny (model Y.prog Y.w) Y.A (.compLoop (sc2 elt t0 i0 t1 i1 ifs1 scope pos) 1 (.ref it1) (.ref D) Y.env) R s := by
  intro m j H s w0 I0 st0 n0
  refine codeAny_loop rfl (fun n s' => ∃ j H', Inv Y pins (wipe σ2 vs1) H' s' ∧ tn1 j s'.heap ∧ (∀ b ∈ fp1, H' b = none) ∧ W1 j n H') (fun n s5 hI => ?_) m ⟨j, H, I0, st0, n0, w0⟩
  obtain ⟨j, H5, I5, st5, n5, w5⟩ := hI
  show wpAny _ Y.A ((compTurn (sc2 elt t0 i0 t1 i1 ifs1 scope pos) 1 (.ref it1) (.ref D) Y.env).onRaise (fun x => do noteFrame x Y.env; theTreesLotGoes x)) _ _ s5
  refine wpAny_noted ?_
  rw [sc_turn1]
  refine wpAny_bind (wpAny_standAt (turnT hc T1 pg1 hx I5 (fun b hb => ok b hb _ (n5 b hb)) st5 ?_))
  rcases walk j n H5 w5 with ⟨stop, nx⟩ | ⟨gn, Nx1, hN, step⟩
  · exact .inl ⟨stop, fun s' I' => wpAny_pure (fin s' H5 I' nx)⟩
  · refine .inr ⟨gn, _, step, fun σ3 H3 s7 s8 ⟨hw, q⟩ st7 I8 => ?_⟩
    have over : ∀ {s' : Shared} {H' : Hp}, Inv Y (pins ++ pinsAt fp1 s7.heap) σ3 H' s' → Nx1 H' → ∃ m, m < n ∧ ∃ j H', Inv Y pins (wipe σ2 vs1) H' s' ∧ tn1 j s'.heap ∧ (∀ b ∈ fp1, H' b = none) ∧ W1 j m H' := by
      intro s' H' I' nx
      obtain ⟨k', hk, w'⟩ := hN H' nx
      obtain ⟨b1, b2⟩ := turn_back T1 st7 I'
      refine ⟨k', hk, j + 1, H', I'.unpinned.weak ?_ (fun z v e => ?_), b1, b2, w'⟩
      · rw [← hw, wipe_length]
      · rw [← hw] at e
        exact (wipe_some e).1
    have tests := pt1.run _ s8 σ3 H3 _ I8 q
    rw [hx] at tests
    refine wpAny_bind (thnF tests fun b s9 ⟨H9, I9, q9⟩ => ?_)
    cases b with
    | false =>
      rw [if_neg Bool.false_ne_true] at q9
      exact wpAny_pure ⟨rfl, over I9 q9⟩
    | true =>
      rw [if_pos rfl] at q9
      have ev := pe.run _ s9 σ3 H9 _ I9 q9
      rw [hx] at ev
      refine wpAny_bind (wpAny_bind (thnF ev fun u s10 ⟨y, H10, I10, ry, q10⟩ => wpAny_bind (wpAny_standAt ?_)))
      have ad := sc_add (Q := fun s' => ∃ m, m < n ∧ ∃ j H', Inv Y pins (wipe σ2 vs1) H' s' ∧ tn1 j s'.heap ∧ (∀ b ∈ fp1, H' b = none) ∧ W1 j m H') I10 ry q10 fun s' H' I' nx => over I' nx
      rw [hx] at ad
      exact wpAny_bind (thnF ad fun _ s11 q11 => wpAny_pure (wpAny_pure ⟨rfl, q11⟩))
/-- a clause's start: the source's iterator, once more or not -/
theorem sc_start {it : Value} {acc : Value} {env : Env} {P : Program} {w : World} {A : Around} {c : Nat} {iter : Expr} (hc : c = 0 ∧ iter = i0 ∨ c = 1 ∧ iter = i1) (h0 : codeAny (model P w) A (.compLoop (sc2 elt t0 i0 t1 i1 ifs1 scope pos) c it acc env) R s)
    (h : wpAny (model P w) A (pyIter it) (fun it' s' => codeAny (model P w) A (.compLoop (sc2 elt t0 i0 t1 i1 ifs1 scope pos) c it' acc env) R s') (notedBy (model P w) A env fun x s' => R (.error x) s') s) :
    codeAny (model P w) A (.compStart (sc2 elt t0 i0 t1 i1 ifs1 scope pos) c it acc env) R s := by
  refine codeAny_of_tree (show wpAny _ _ ((compStart (sc2 elt t0 i0 t1 i1 ifs1 scope pos) c it acc env).onRaise (fun x => do noteFrame x env; standAt theWindowsPlace)) _ _ s from wpAny_notedAt ?_)
  have again' : ∀ {p : Pos}, wpAny (model P w) A (do standAt p; let it' ← pyIter it; again (.compLoop (sc2 elt t0 i0 t1 i1 ifs1 scope pos) c it' acc env)) (fun fin s' => match fin with
      | .done f => R (.ok f) s'
      | .again c' => c'.quiet = true ∧ codeAny (model P w) A c' R s') (notedBy (model P w) A env fun x s' => R (.error x) s') s := fun {p} =>
    wpAny_bind (wpAny_standAt (wpAny_bind (thn h fun it' s' q => wpAny_pure ⟨rfl, q⟩)))
  have stay : wpAny (model P w) A (again (.compLoop (sc2 elt t0 i0 t1 i1 ifs1 scope pos) c it acc env)) (fun fin s' => match fin with
      | .done f => R (.ok f) s'
      | .again c' => c'.quiet = true ∧ codeAny (model P w) A c' R s') (notedBy (model P w) A env fun x s' => R (.error x) s') s := wpAny_pure ⟨rfl, h0⟩
  unfold compStart
  rcases hc with ⟨rfl, rfl⟩ | ⟨rfl, rfl⟩
  · refine (show wpAny _ A (ask >>= _) _ _ s from wpAny_bind (wpAny_askSetting (wpAny_ite ?_)))
    split
    · exact stay
    · exact wpAny_bind (wpAny_rule again')
  · refine (show wpAny _ A (ask >>= _) _ _ s from wpAny_bind (wpAny_askSetting (wpAny_ite ?_)))
    split
    · exact stay
    · exact wpAny_bind (wpAny_rule again')
/-- the loop of the outer clause -/
theorem sc_outer {W : Nat → Nat → Hp → Prop} {Fin : Hp → Prop} (hc : Y.calm = true) (hx : Y.xe = fun _ _ => False) (T : Turn Y.prog Y.w Y.K t0 J fp it tn) (pg : PG Y t0 g) (pi1 : PI Y t1 i1 wi1) (pg1 : PG Y t1 g1) (pt1 : PTs Y ifs1 tt1) (pe : PE Y elt te)
    (hs1 : ∀ env x, foldedSetIterable i1 env x = pure x) (hv : ∀ i ∈ vs1, i ∈ vs) (walk : OutW Y.w D g wi1 g1 tt1 te vs vs1 σ Fin J W) (ok : ∀ b ∈ fp, ∀ H' : Hp, H' b = none → FpOk Y pins H' b) (fin : ∀ s' H', Inv Y pins (wipe σ vs) H' s' → Fin H' → R (.ok .next) s') :
    ∀ m i H s, W i m H → Inv Y pins (wipe σ vs) H s → tn i s.heap → (∀ b ∈ fp, H b = none) → codeAny (model Y.prog Y.w) Y.A (.compLoop (sc2 elt t0 i0 t1 i1 ifs1 scope pos) 0 (.ref it) (.ref D) Y.env) R s := by
  intro m i H s w0 I0 st0 n0
  refine codeAny_loop rfl (fun n s' => ∃ j H', Inv Y pins (wipe σ vs) H' s' ∧ tn j s'.heap ∧ (∀ b ∈ fp, H' b = none) ∧ W j n H') (fun n s5 hI => ?_) m ⟨i, H, I0, st0, n0, w0⟩
  obtain ⟨j, H5, I5, st5, n5, w5⟩ := hI
  show wpAny _ Y.A ((compTurn (sc2 elt t0 i0 t1 i1 ifs1 scope pos) 0 (.ref it) (.ref D) Y.env).onRaise (fun x => do noteFrame x Y.env; theTreesLotGoes x)) _ _ s5
  refine wpAny_noted ?_
  rw [sc_turn0]
  refine wpAny_bind (wpAny_standAt (turnT hc T pg hx I5 (fun b hb => ok b hb _ (n5 b hb)) st5 ?_))
  rcases walk j n H5 w5 with ⟨stop, q⟩ | ⟨gn, Nx, hN, step⟩
  · exact .inl ⟨stop, fun s' I' => wpAny_pure (fin s' H5 I' q)⟩
  · refine .inr ⟨gn, _, step, fun σ3 H3 s7 s8 ⟨hw, q⟩ st7 I8 => ?_⟩
    have src := pi1.run _ s8 σ3 H3 _ I8 q
    rw [hx] at src
    refine wpAny_bind (thnF src fun x s9 hx9 => wpAny_bind (wpAny_standAt (wpAny_bind (wpAny_of_eq (hs1 _ x) (wpAny_bind (wpAny_holding (thnF hx9 fun itv s10 h10 => ?_)))))))
    obtain ⟨it1, fp1, tn1, J1, H10, rfl, I10, T1, st10, f10, W1, ⟨m1, w1⟩, walk1⟩ := h10
    refine wpAny_bind (wpAny_runOwn ?_)
    rw [Around.mark_none]
    have inner := sc_inner (i0 := i0) (scope := scope) (pos := pos) (t0 := t0) (i1 := i1) (R := fun r s' => match r with
        | .ok _ => ∃ m, m < n ∧ ∃ j H', Inv Y pins (wipe σ vs) H' s' ∧ tn j s'.heap ∧ (∀ b ∈ fp, H' b = none) ∧ W j m H'
        | .error _ => False) hc hx T1 pg1 pt1 pe walk1 (fun b hb H' hn => ⟨hn, (f10 b hb).2⟩) (fun s' H' I' nx => by
      obtain ⟨m', hm, w'⟩ := hN H' nx
      obtain ⟨b1, b2⟩ := turn_back T st7 I'
      refine ⟨m', hm, j + 1, H', I'.unpinned.weak ?_ (fun z v e => ?_), b1, b2, w'⟩
      · rw [wipe_length, wipe_length, ← wipe_length σ3 vs, hw, wipe_length]
      · rw [← hw] at e
        obtain ⟨e1, e2⟩ := wipe_some e
        rw [wipe_out fun hz => e2 (hv z hz)]
        exact e1) m1 0 H10 s10 w1 (I10.weak (wipe_length _ _) fun z v e => (wipe_some e).1) st10 fun b hb => (f10 b hb).1
    refine codeAny_mono (sc_start (.inr ⟨rfl, rfl⟩) inner (T1.self Y.A 0 _ _ _ st10 inner)) fun r s' hr => ?_
    match r, hr with
    | .ok _, hr => exact wpAny_pure ⟨rfl, hr⟩
    | .error _, hr => exact False.elim hr
end
section
variable {X : Cx}
/-- the whole: D is the new set -/
def tSc2 (w : World) (wi : TI) (g : TG) (wi1 : TI) (g1 : TG) (tt1 : TT) (te : TE) (vs vs1 : List Nat) : TE := fun σ H Q => wi σ H fun J H1 => ∀ D, H1 D = none → ∃ W : Nat → Nat → Hp → Prop, (∃ m, W 0 m (upd H1 D (SetO w D (fun _ => false) 0))) ∧ OutW w D g wi1 g1 tt1 te vs vs1 σ (fun H' => Q (.ref D) H') J W
theorem pe_sc2 {elt tg iter tg1 iter1 : Expr} {ifs1 : List Expr} {scope : Scope} {own : List (Str × Nat)} {vs1 : List Nat} {pos : Pos} {wi wi1 : TI} {g g1 : TG} {tt1 : TT} {te : TE} (hc : X.calm = true) (hN : X.N.Nodup) (hi : PI X tg iter wi) (ok : BlkOk X.N X.env.scope scope own) (hv : ∀ i ∈ vs1, i ∈ own.map (·.2))
    (hb : ∀ Y : Cx, Blk X scope Y → PG Y tg g ∧ PI Y tg1 iter1 wi1 ∧ PG Y tg1 g1 ∧ PTs Y ifs1 tt1 ∧ PE Y elt te)
    (hs : ∀ x, foldedSetIterable iter X.env x = pure x := by intro _; rfl) (hs1 : ∀ env x, foldedSetIterable iter1 env x = pure x := by intro _ _; rfl) :
    PE X (sc2 elt tg iter tg1 iter1 ifs1 scope pos) (tSc2 X.w wi g wi1 g1 tt1 te (own.map (·.2)) vs1) := by
  refine ⟨fun pins s σ H Q I h => ?_⟩
  rw [PpSet.eval_SetComp]
  have free : ∀ y ∈ scope.names, y.2 = .free → ∃ c, X.env.cells.lookup y.1 = some c := by
    intro y hy e
    rcases ok.free y hy e with z | z
    · exact I.ok.has _ (.inl z)
    · exact I.ok.has _ (.inr z)
  refine wpAny_comprehension_free (use := none) rfl hs (closure_ok free) ok.kind (fun y hy e => by rw [ok.uniq y hy, e]) (thn (hi.run pins s σ H _ I h) fun xv s1 h1 => thn h1 fun itv s2 h2 => ?_)
  obtain ⟨it, fp, tn, J, H2, rfl, I2, T, st2, f2, q⟩ := h2
  refine PpSet.newSet_ok (newEnv_comp ?_)
  have dn : H2 s2.heap.objs.size = none := I2.hok.fresh (Nat.le_refl _)
  obtain ⟨W, ⟨m0, w0⟩, walk⟩ := q _ dn
  obtain ⟨t3, e3⟩ : ∃ t : Shared, t = { s2 with heap := s2.heap.push (nuS X.w) } := ⟨_, rfl⟩
  have I3 : Inv X pins σ (upd H2 s2.heap.objs.size (SetO X.w s2.heap.objs.size (fun _ => false) 0)) t3 := by
    rw [e3]
    exact I2.laid (t' := s2.toks) (fun b o e => Heap.get?_push_of_some _ e) (Nat.le_refl _) (setO_new (setR_fresh X.w))
  have hp3 : t3.heap = s2.heap.push (nuS X.w) := by rw [e3]
  have below : ∀ b ∈ fp, b < s2.heap.objs.size := fun b hb => by
    obtain ⟨o, e, _⟩ := T.obj _ _ st2 b hb
    exact Heap.lt_size e
  have own3 : ∀ b ∈ fp, FpOk X pins (upd H2 s2.heap.objs.size (SetO X.w s2.heap.objs.size (fun _ => false) 0)) b ∧ b < t3.heap.objs.size := fun b hb => by
    refine ⟨⟨?_, (f2 b hb).2⟩, ?_⟩
    · rw [upd_ne (Nat.ne_of_lt (below b hb))]
      exact (f2 b hb).1
    · rw [hp3, Heap.size_push]
      exact Nat.lt_succ_of_lt (below b hb)
  have st3 : tn 0 t3.heap := T.keep _ _ _ st2 fun b _ o e => by
    rw [hp3]
    exact Heap.get?_push_of_some _ e
  have I4 := block_start I3 ok hN own3
  have st4 : tn 0 (pushCells (t3.heap.push { cls := .type "dict", data := .dict #[] }) scope.names) := T.keep _ _ _ st3 fun b _ o e => pushCells_keeps _ _ _ _ (Heap.get?_push_of_some _ e)
  show codeAny _ _ (.compStart (sc2 elt tg iter tg1 iter1 ifs1 scope pos) 0 (.ref it) (.ref s2.heap.objs.size) (compEnvC scope (cellsFrom ((s2.heap.push (nuS X.w)).objs.size + 1) scope.names (cloFrom X.env.cells scope.names [])) (s2.heap.push (nuS X.w)).objs.size X.env))
    (compPost (model X.prog X.w) X.A X.xe none _ (.ref s2.heap.objs.size) (s2.heap.push (nuS X.w)).objs.size) { s2 with heap := pushCells ((s2.heap.push (nuS X.w)).push { cls := .type "dict", data := .dict #[] }) scope.names }
  rw [← hp3]
  have es : ({ s2 with heap := pushCells (t3.heap.push { cls := .type "dict", data := .dict #[] }) scope.names } : Shared) = { t3 with heap := pushCells (t3.heap.push { cls := .type "dict", data := .dict #[] }) scope.names } := by rw [e3]
  rw [es]
  have cl : (compEnvC scope (cellsFrom (t3.heap.objs.size + 1) scope.names (cloFrom X.env.cells scope.names [])) t3.heap.objs.size X.env).locals = t3.heap.objs.size := rfl
  have nf : ∀ b ∈ fp, (upd H2 s2.heap.objs.size (SetO X.w s2.heap.objs.size (fun _ => false) 0)) b = none := fun b hb => (own3 b hb).1.1
  have blk : Blk X scope (X.blk t3 (upd H2 s2.heap.objs.size (SetO X.w s2.heap.objs.size (fun _ => false) 0)) scope (compEnvC scope (cellsFrom (t3.heap.objs.size + 1) scope.names (cloFrom X.env.cells scope.names [])) t3.heap.objs.size X.env) fp) := blk_mk
  generalize compEnvC scope (cellsFrom (t3.heap.objs.size + 1) scope.names (cloFrom X.env.cells scope.names [])) t3.heap.objs.size X.env = ce at I4 cl blk ⊢
  generalize upd H2 s2.heap.objs.size (SetO X.w s2.heap.objs.size (fun _ => false) 0) = H3 at I3 I4 own3 w0 nf blk
  obtain ⟨b1, b2, b3, b4, b5⟩ := hb _ blk
  have loop := sc_outer (Y := X.blk t3 H3 scope ce fp) (R := compPost (model X.prog X.w) X.A X.xe none (EP X pins σ Q) (.ref s2.heap.objs.size) t3.heap.objs.size) (i0 := iter) (scope := scope) (pos := pos) hc rfl T b1 b2 b3 b4 b5 hs1 hv walk (pins := [])
    (fun b hb H' hn => ⟨hn, (I4.ok.exf b hb).1, I4.ok.exfs b hb, .inl hb, fun x c e => (I4.ok.exf b hb).2 x c e, fun p hp => absurd (show p ∈ ([] : List (Addr × Obj)) ++ [] from hp) (by simp)⟩) (fun s' H' I' qq => by
    have I7 : Inv X pins σ H' s' := I3.call' (ch := fp) I'.os I'.base I'.hok I'.bare fun b hb => let z := (own3 b hb).1.2; ⟨z.2.2.1, z.1, z.2.2.2.1, z.2.2.2.2⟩
    have nC : H' t3.heap.objs.size = none := by
      have z : H' ce.locals = none := I'.free
      rwa [cl] at z
    obtain ⟨m, hn, _⟩ := I'.loc
    have hn : s'.heap.Ns ce.locals m := hn
    rw [cl] at hn
    obtain ⟨g0, g1, g3, g4, g5⟩ := I3.fpOk (Nat.le_refl _) nC
    refine ⟨m, hn, fun h'' sb => ⟨.ref _, H', I7.turned (t' := s'.toks) (fun b o hb e => (sb.2 b hb).trans e) g0 g1 g4 g5.1 g5.2, rfl, qq⟩⟩) m0 0 H3 _ w0 I4 st4 nf
  exact sc_start (.inl ⟨rfl, rfl⟩) loop (T.self X.A 0 _ _ _ st4 loop)
end
end G

namespace G
open PySem PySem.Spec PyProof.Rows L2
/-! ### sorted({..}) over data -/
section
variable {B B2 : Bs} {F F1 F2 H H1 H2 : Hp} {M M1 : Mem} {D : Addr} {w : World} {acc : List Int}
/-- the world with one object more that may change: D -/
abbrev withD (F H : Hp) (M : Mem) (D : Addr) (o : HO) : Bs := ⟨upd H D o, fun a => a ∈ M.map (·.1) ∨ a = D, F⟩
theorem withD_back {o : HO} (W : Wd B F1 H1 M1) (hd : H1 D = none) (W2 : Wd (withD F1 H1 M1 D o) F2 H2 M1) : Wd B F2 H2 M1 where
  fh := W2.fh
  f0 := fun a u e => W2.f0 a u (W.f0 a u e)
  fnew := fun a u e => by
    rcases W2.fnew a u e with (q | q) | q | q | q
    · exact W.fnew a u q
    · exact .inl (.inr q)
    · have q : upd H1 D o a = none := q
      by_cases z : a = D
      · rw [z]
        exact .inr (.inl (W.dom _ hd))
      · rw [upd_ne z] at q
        exact .inr (.inl (W.dom _ q))
    · obtain ⟨p, hp, e⟩ := List.mem_map.mp q
      subst e
      exact .inr (W.new p hp)
    · rw [q]
      exact .inr (.inl (W.dom _ hd))
  keep := fun a u e n => by
    have e1 := W.keep a u e n
    have ne : a ≠ D := ne_of_none e1 hd
    refine W2.keep a u (show upd H1 D o a = some u by rw [upd_ne ne]; exact e1) fun z => ?_
    rcases z with z | z
    · obtain ⟨p, hp, ep⟩ := List.mem_map.mp z
      rcases W.new p hp with y | y
      · rw [ep, e] at y
        cases y
      · rw [ep] at y
        exact n y
    · exact ne z
  dom := fun a e => by
    have q : upd H1 D o a = none := W2.dom a e
    by_cases z : a = D
    · rw [z]
      exact W.dom _ hd
    · rw [upd_ne z] at q
      exact W.dom _ q
  mem := W2.mem
  nd := W2.nd
  new := W.new
theorem withD_start {o : HO} (W : Wd B F1 H1 M1) (hd : H1 D = none) : Wd (withD F1 H1 M1 D o) F1 (upd H1 D o) M1 := by
  have W2 := W.other (o := o) hd
  exact ⟨W2.fh, fun a u e => e, fun a u e => .inl (.inl e), fun a u e _ => e, fun a e => e, W2.mem, W2.nd, fun p hp => .inr (.inl (List.mem_map_of_mem hp))⟩
theorem withD_poke {o u : HO} (W : Wd (withD F1 H1 M1 D o) F H M1) (fd : F D = none) (dm : D ∉ M1.map (·.1)) : Wd (withD F1 H1 M1 D o) F (upd H D u) M1 where
  fh := fun a v e => by
    rw [upd_ne (ne_of_none e fd)]
    exact W.fh a v e
  f0 := W.f0
  fnew := W.fnew
  keep := fun a v e n => by
    have ne : a ≠ D := fun z => n (.inr z)
    rw [upd_ne ne]
    exact W.keep a v e n
  dom := fun a e => by
    by_cases z : a = D
    · rw [z, upd_same] at e
      cases e
    · rw [upd_ne z] at e
      exact W.dom a e
  mem := fun p hp => by
    obtain ⟨g1, g2⟩ := W.mem p hp
    refine ⟨g1, g2.mono (fun _ _ h => h) fun v e => ?_⟩
    have ne : p.1 ≠ D := fun z => dm (by rw [← z]; exact List.mem_map_of_mem hp)
    rw [upd_ne ne]
    exact e
  nd := W.nd
  new := W.new
/-- the set at D has just the members of acc -/
structure DS (B2 : Bs) (w : World) (D : Addr) (M1 : Mem) (acc : List Int) (F H : Hp) : Prop where
  wd : Wd B2 F H M1
  fd : F D = none
  at_ : ∃ S n, H D = some (SetO w D S n) ∧ (∀ k, S k = true ↔ k ∈ acc) ∧ n ≤ acc.length
theorem DS.go (d : DS B2 w D M1 acc F H) (dm : D ∉ M1.map (·.1)) (W2 : Wd (here F H M1) F2 H2 M1) : DS B2 w D M1 acc F2 H2 := by
  obtain ⟨S, n, e, h1, h2⟩ := d.at_
  refine ⟨d.wd.trans W2, ?_, S, n, W2.keep D _ e dm, h1, h2⟩
  cases q : F2 D with
  | none => rfl
  | some o =>
    rcases W2.fnew D o q with (z | z) | z | z
    · have z : F D = some o := z
      rw [d.fd] at z
      cases z
    · obtain ⟨xs, rfl⟩ := z
      have h1 := W2.fh _ _ q
      rw [W2.keep D _ e dm] at h1
      exact nomatch h1
    · have z : H D = none := z
      rw [e] at z
      cases z
    · exact absurd z dm
end
section
variable {X : Cx} {ρ : List SD} {M : Mem} {Q : Kn} {pos cpos p : Pos} {elt tg it tg1 it1 : Expr} {ifs1 : List Expr} {scope : Scope} {own : List (Str × Nat)} {t t1 : Tg} {vs1 : List Nat}
def mem2 (n : Nat) (n1 : Nat → Nat) (c : Nat → Nat → Bool) (g : Nat → Nat → Int) : List Int := (List.range n).flatMap fun i => ((List.range (n1 i)).filter (c i)).map (g i)
def mem1 (n : Nat) (c : Nat → Bool) (g : Nat → Int) : List Int := ((List.range n).filter c).map g
theorem mem1_succ (n : Nat) (c : Nat → Bool) (g : Nat → Int) : mem1 (n + 1) c g = if c n = true then mem1 n c g ++ [g n] else mem1 n c g := by
  unfold mem1
  rw [List.range_succ, List.filter_append]
  cases h : c n <;> simp [h]
theorem mem1_len (n : Nat) (c : Nat → Bool) (g : Nat → Int) : (mem1 n c g).length ≤ n := by
  unfold mem1
  rw [List.length_map]
  have := List.length_filter_le c (List.range n)
  rwa [List.length_range] at this
theorem mem2_succ (n : Nat) (n1 : Nat → Nat) (c : Nat → Nat → Bool) (g : Nat → Nat → Int) : mem2 (n + 1) n1 c g = mem2 n n1 c g ++ mem1 (n1 n) (c n) (g n) := by
  unfold mem2 mem1
  rw [List.range_succ, List.flatMap_append]
  simp
theorem mem2_len {n m : Nat} {n1 : Nat → Nat} (c : Nat → Nat → Bool) (g : Nat → Nat → Int) (h : ∀ i, i < n → n1 i ≤ m) : ∀ i, i ≤ n → (mem2 i n1 c g).length ≤ i * m := by
  intro i
  induction i with
  | zero => intro _; exact Nat.zero_le _
  | succ i ih =>
    intro hi
    rw [mem2_succ, List.length_append, Nat.succ_mul]
    exact Nat.add_le_add (ih (by omega)) (Nat.le_trans (mem1_len _ _ _) (h i (by omega)))
def SComp2 (X : Cx) (scope : Scope) (ρ : List SD) (vs vs1 : List Nat) (t t1 : Tg) (tg1 it1 : Expr) (ifs1 : List Expr) (elt : Expr) (Q : Kn) (n : Nat) (item : Nat → SD) (M : Mem) : Prop :=
  ∃ (m : Nat) (n1 : Nat → Nat) (item1 : Nat → Nat → SD) (c : Nat → Nat → Bool) (g : Nat → Nat → Int), (∀ i, i < n → n1 i ≤ m) ∧ (n + 1) * m < 4000 ∧
    (∀ i, i < n → ∃ ρ2, t.put (wipeR ρ vs) (item i) = some ρ2 ∧ ∀ Y, Blk X scope Y → GI Y ρ2 M tg1 it1 fun n' it' M2 => n' = n1 i ∧ it' = item1 i ∧ M2 = M ∧
      ∀ j, j < n1 i → ∃ ρ3, t1.put (wipeR ρ2 vs1) (item1 i j) = some ρ3 ∧ (∀ Y, Blk X scope Y → GTs Y ρ3 M ifs1 fun b M2 => b = c i j ∧ M2 = M) ∧ (c i j = true → ∀ Y, Blk X scope Y → GE Y ρ3 M elt fun r M2 => r = .pu (.int (g i j)) ∧ M2 = M)) ∧
    ∀ l ns, ns.Pairwise (· < ·) → (∀ k, k ∈ ns ↔ k ∈ mem2 n n1 c g) → ns.length ≤ n * m → Q (.rf (.ref l)) ((l, .lst (pints ns)) :: M)
theorem gsetc2 (t t1 : Tg) (vs1 : List Nat) (hc : X.calm = true) (hN : X.N.Nodup) (hm : X.mg "sorted" = none) (ok : BlkOk X.N X.env.scope scope own) (hv : ∀ i ∈ vs1, i ∈ own.map (·.2)) (ht : TgOk X scope tg t) (ht1 : TgOk X scope tg1 t1) (hi : ∀ j ∈ t.ix, j ∈ own.map (·.2)) (hi1 : ∀ j ∈ t1.ix, j ∈ vs1)
    (h : GI X ρ M tg it (SComp2 X scope ρ (own.map (·.2)) vs1 t t1 tg1 it1 ifs1 elt Q)) (hg : Gl X "sorted" := by rfl)
    (hs : ∀ x, foldedSetIterable it X.env x = pure x := by intro _; rfl) (hs1 : ∀ env x, foldedSetIterable it1 env x = pure x := by intro _ _; rfl)
    (he2 : starEach [sc2 elt tg it tg1 it1 ifs1 scope cpos] X.env = [(false, eval (sc2 elt tg it tg1 it1 ifs1 scope cpos) X.env)] := by rfl) :
    GE X ρ M (.Call (.Name "sorted" p) [sc2 elt tg it tg1 it1 ifs1 scope cpos] [] pos) Q := .mk fun B F H σ Q' W S s => by
  refine wE_of (pe_callB (cr_sortedB hc) hg hm PyProof.Rows.boot_sorted (pa_cons (pe_sc2 (g := t.g X.K) (g1 := t1.g X.K) (wi1 := bI X scope tg1 it1) (tt1 := bT X scope ifs1) (te := bE X scope elt) hc hN pI ok hv (fun Y hY => ?_) hs hs1) pa_nil he2) (by decide) (by decide) he2) ?_
  · obtain ⟨s', H', C, cl, fp, rfl⟩ := hY
    exact ⟨ht _ _ _ _ _, bI_p, ht1 _ _ _ _ _, bT_p, bE_p⟩
  refine h B F H σ _ W S fun n item M1 J F1 H1 hx W1 s1 gi D hD => ?_
  obtain ⟨m, n1, item1, c, g, hm1, hn, turn, fin⟩ := hx
  obtain ⟨f1, f2, dm⟩ := W1.fresh hD
  have len : ∀ i, i < n → ∀ j, j ≤ n1 i → (mem2 i n1 c g ++ mem1 j (c i) (g i)).length < 4000 := fun i hin j hj => by
    have a1 := mem2_len c g hm1 i (Nat.le_of_lt hin)
    have a2 := mem1_len j (c i) (g i)
    have a3 := hm1 i hin
    have a4 : i * m ≤ n * m := Nat.mul_le_mul_right m (Nat.le_of_lt hin)
    rw [Nat.succ_mul] at hn
    rw [List.length_append]
    omega
  refine ⟨fun i k H' => i + k = n ∧ ∃ F', DS (withD F1 H1 M1 D (SetO X.w D (fun _ => false) 0)) X.w D M1 (mem2 i n1 c g) F' H' ∧ Same F1 F', ⟨n, Nat.zero_add n, F1, ⟨withD_start W1 hD, f1, _, 0, upd_same, by simp [mem2], Nat.zero_le _⟩, Same.refl F1⟩, ?_⟩
  rintro i k H' ⟨hik, F', d, s'⟩
  by_cases hin : i < n
  · refine .inr ⟨gi.go i F' H' s' d.wd.fh hin, fun H2 => ∃ F2, DS (withD F1 H1 M1 D (SetO X.w D (fun _ => false) 0)) X.w D M1 (mem2 (i + 1) n1 c g) F2 H2 ∧ Same F1 F2, fun H2 ⟨F2, q1, q2⟩ => ⟨k - 1, by omega, by omega, F2, q1, q2⟩, fun x H2 y => ?_⟩
    obtain ⟨F2, s2, W2, v2⟩ := gi.yld i (here F' H' M1) F' H' M1 x H2 hin s' d.wd.here y
    have d2 := d.go dm W2
    obtain ⟨ρ2, hput, hI⟩ := turn i hin
    refine tg_run W2.fh (pwipe (pMono ((s1.trans s').trans s2) S) _) v2 hput hi fun σ2 S2 hw => ⟨by rw [hw, wipe_wipe], fun Y hY => ?_⟩
    refine hI Y hY (here F2 H2 M1) F2 H2 σ2 _ W2.here S2 fun n' it' M3 J1 F3 H3 hx W3 s3 gi1 => ?_
    obtain ⟨e1, e2, e3, inner⟩ := hx
    subst e1
    subst e2
    have e3 := e3.symm
    subst e3
    have d3 := d2.go dm W3
    refine ⟨fun j k H' => j + k = n1 i ∧ ∃ F', DS (withD F1 H1 M1 D (SetO X.w D (fun _ => false) 0)) X.w D M1 (mem2 i n1 c g ++ mem1 j (c i) (g i)) F' H' ∧ Same F3 F', ⟨n1 i, Nat.zero_add _, F3, by simpa [mem1] using d3, Same.refl F3⟩, ?_⟩
    rintro j k2 H5 ⟨hjk, F5, d5, s5⟩
    by_cases hjn : j < n1 i
    · refine .inr ⟨gi1.go j F5 H5 s5 d5.wd.fh hjn, fun H6 => ∃ F6, DS (withD F1 H1 M1 D (SetO X.w D (fun _ => false) 0)) X.w D M1 (mem2 i n1 c g ++ mem1 (j + 1) (c i) (g i)) F6 H6 ∧ Same F3 F6, fun H6 ⟨F6, q1, q2⟩ => ⟨k2 - 1, by omega, by omega, F6, q1, q2⟩, fun x1 H6 y1 => ?_⟩
      obtain ⟨F6, s6, W6, v6⟩ := gi1.yld j (here F5 H5 M1) F5 H5 M1 x1 H6 hjn s5 d5.wd.here y1
      have d6 := d5.go dm W6
      obtain ⟨ρ3, hput1, htst, hel⟩ := inner j hjn
      refine tg_run W6.fh (pwipe (pMono ((s3.trans s5).trans s6) S2) vs1) v6 hput1 hi1 fun σ3 S3 hw1 => ⟨by rw [hw1, wipe_wipe], fun Y hY => ?_⟩
      refine gts_run (htst Y hY) (here F6 H6 M1) F6 H6 σ3 _ W6.here S3 fun b M7 F7 H7 hb W7 s7 => ?_
      obtain ⟨e4, e5⟩ := hb
      have e5 := e5.symm
      subst e5
      have d7 := d6.go dm W7
      have grow := mem1_succ j (c i) (g i)
      cases b with
      | false =>
        refine iteF ⟨F7, ?_, (s5.trans s6).trans s7⟩
        rw [grow, if_neg (by rw [← e4]; exact Bool.false_ne_true)]
        exact d7
      | true =>
        refine iteT fun Y2 hY2 => ?_
        refine hel e4.symm Y2 hY2 (here F7 H7 M1) F7 H7 σ3 _ W7.here (pMono s7 S3) fun r M8 v F8 H8 hr W8 s8 vv => ?_
        obtain ⟨e6, e7⟩ := hr
        subst e6
        have e7 := e7.symm
        subst e7
        have d8 := d7.go dm W8
        have vv : Dt F8 v (.int (g i j)) := vv
        cases vv
        obtain ⟨S0, cnt, eD, hS, hcnt⟩ := d8.at_
        have l1 := len i hin j (Nat.le_of_lt hjn)
        rw [if_pos e4.symm] at grow
        refine ⟨g i j, S0, cnt, rfl, eD, by unfold scanBound; omega, F8, ⟨withD_poke d8.wd d8.fd dm, d8.fd, _, _, upd_same, fun k => ?_, ?_⟩, ((s5.trans s6).trans s7).trans s8⟩
        · rw [grow, ← List.append_assoc, List.mem_append, List.mem_singleton, ← hS k]
          simp
        · rw [grow, ← List.append_assoc, List.length_append, List.length_singleton]
          split <;> omega
    · have ej : j = n1 i := by omega
      subst ej
      refine .inl ⟨gi1.stop F5 H5 s5 d5.wd.fh, F5, ?_, ((s'.trans s2).trans s3).trans s5⟩
      rw [mem2_succ]
      exact d5
  · have ei : i = n := by omega
    subst ei
    refine .inl ⟨gi.stop F' H' s' d.wd.fh, ?_⟩
    obtain ⟨S0, cnt, eD, hS, hcnt⟩ := d.at_
    have l2 := mem2_len c g hm1 i (Nat.le_refl _)
    rw [Nat.succ_mul] at hn
    refine ⟨D, S0, cnt, rfl, eD, by omega, fun ns q h1 h2 h3 hq => ?_⟩
    exact s _ _ _ F' _ (fin q ns h1 (fun k => by rw [h2 k, hS k]) (by omega)) ((withD_back W1 hD d.wd).newl hq (of_ints ns)) (s1.trans s') rfl
end
end G

namespace G
open PySem PySem.Spec PyProof.Rows L2
section
variable {X : Cx} {ρ : List SD} {M : Mem} {Q : Kn} {pos p p2 cpos : Pos} {e : Expr}
/-- len(set(xs)) of ints that are all different -/
theorem glenset (hc : X.calm = true) (hm : X.mg "len" = none) (hm2 : X.mg "set" = none) (h : GE X ρ M e fun x M1 => ∃ ns, LV M1 x (pints ns) ∧ ns.Nodup ∧ ns.length ≤ 4000 ∧ Q (.pu (.int (ns.length : Nat))) M1)
    (hg : Gl X "len" := by rfl) (hg2 : Gl X "set" := by rfl) (he : starEach [e] X.env = (false, eval e X.env) :: starEach [] X.env := by rfl) : GE X ρ M (.Call (.Name "len" p) [.Call (.Name "set" p2) [e] [] cpos] [] pos) Q := .mk fun B F H σ Q' W S s => by
  refine wE_of (RZ.pe_lenSetI hg hm hg2 hm2 pE hc he) (h B F H σ _ W S fun x M1 v F1 H1 hx W1 s1 vx => ?_)
  obtain ⟨ns, lv, hnd, hz, q⟩ := hx
  obtain ⟨p, vs, rfl, hp, pr⟩ := lv.at W1 vx
  have ev := ints_of pr
  subst ev
  exact ⟨p, ns, rfl, .inl (.of hp), hnd, hz, s _ M1 _ F1 H1 q W1 s1 (.int _)⟩
end
end G

namespace G
open PySem PySem.Spec PyProof.Rows L2
/-! ### data of bounded size: what == and repr ask -/
structure Gd (k w : Nat) (d : PyData) : Prop where
  lay : d.canLay0 = true
  short : d.intsShort 61 = true
  dep : d.depth ≤ k
  wei : d.weight ≤ w
  shw : d.showable = true
abbrev IB (i : Int) : Prop := i.natAbs < 10 ^ 60
theorem gd_int {i : Int} (h : IB i) : Gd 0 200 (.int i) := by
  have hb : i.natAbs.log2 < 200 := by
    by_cases z : i.natAbs = 0
    · rw [z]; decide
    · exact (Nat.log2_lt z).2 (Nat.lt_trans h (by decide))
  refine ⟨by simp [PyData.canLay0], ?_, by simp [PyData.depth], ?_, by simp only [PyData.showable]; exact decide_eq_true (by omega)⟩
  · have e := int_text_length_le10 (k := 60) (by decide) h
    simp only [PyData.intsShort, decide_eq_true_eq]
    show (Str.ofString (toString i)).length ≤ 61
    rw [PySem.ofString_length]
    exact e
  · simp only [PyData.weight]
    split
    · omega
    · omega
theorem gd_bool (b : Bool) : Gd 0 200 (.bool b) := ⟨by simp [PyData.canLay0], by simp [PyData.intsShort], by simp [PyData.depth], by simp [PyData.weight], by simp [PyData.showable]⟩
theorem gd_none : Gd 0 200 .none := ⟨by simp [PyData.canLay0], by simp [PyData.intsShort], by simp [PyData.depth], by simp [PyData.weight], by simp [PyData.showable]⟩
theorem gd_all {k w : Nat} : ∀ {ds : List PyData}, (∀ d ∈ ds, Gd k w d) → PyData.canLayAll0 ds = true ∧ PyData.intsShortAll 61 ds = true ∧ PyData.depthAll ds ≤ k ∧ PyData.weightAll ds ≤ ds.length * (w + 1) ∧ PyData.showableAll ds = true
  | [], _ => ⟨rfl, rfl, Nat.zero_le _, Nat.zero_le _, rfl⟩
  | d :: ds, h => by
    obtain ⟨h1, h2, h3, h4, h5⟩ := h d List.mem_cons_self
    obtain ⟨g1, g2, g3, g4, g5⟩ := gd_all fun e he => h e (List.mem_cons_of_mem _ he)
    refine ⟨by simp only [PyData.canLayAll0, h1, g1, Bool.and_self], by simp only [PyData.intsShortAll, h2, g2, Bool.and_self], by simp only [PyData.depthAll]; omega, ?_, by simp only [PyData.showableAll, h5, g5, Bool.and_self]⟩
    simp only [PyData.weightAll, List.length_cons, Nat.succ_mul]
    omega
theorem gd_list {k w n : Nat} {ds : List PyData} (h : ∀ d ∈ ds, Gd k w d) (hl : ds.length ≤ n) : Gd (k + 1) (n * (w + 1)) (.list ds) := by
  obtain ⟨h1, h2, h3, h4, h5⟩ := gd_all h
  exact ⟨by simp only [PyData.canLay0, h1], by simp only [PyData.intsShort, h2], by simp only [PyData.depth]; omega, by simp only [PyData.weight]; exact Nat.le_trans h4 (Nat.mul_le_mul_right _ hl), by simp only [PyData.showable, h5]⟩
theorem gd_tuple {k w n : Nat} {ds : List PyData} (h : ∀ d ∈ ds, Gd k w d) (hl : ds.length ≤ n) : Gd (k + 1) (n * (w + 1)) (.tuple ds) := by
  obtain ⟨h1, h2, h3, h4, h5⟩ := gd_all h
  exact ⟨by simp only [PyData.canLay0, h1], by simp only [PyData.intsShort, h2], by simp only [PyData.depth]; omega, by simp only [PyData.weight]; exact Nat.le_trans h4 (Nat.mul_le_mul_right _ hl), by simp only [PyData.showable, h5]⟩
theorem Gd.up {k w k' w' : Nat} {d : PyData} (h : Gd k w d) (hk : k ≤ k') (hw : w ≤ w') : Gd k' w' d := ⟨h.lay, h.short, Nat.le_trans h.dep hk, Nat.le_trans h.wei hw, h.shw⟩
theorem Gd.shaped {k w : Nat} {d : PyData} (h : Gd k w d) (hk : k ≤ 64) : SeqAt.shaped d = true := by
  unfold SeqAt.shaped
  rw [h.lay, Bool.true_and]
  exact decide_eq_true (Nat.le_trans h.dep hk)
theorem Gd.shows {k w : Nat} {d : PyData} (h : Gd k w d) (hk : k ≤ 20) (hw : w ≤ 200000) : Shows d := by
  refine ⟨h.shw, PyData.hasDict_of_canLay d h.lay, Nat.le_trans h.dep hk, ?_⟩
  have z := PyData.shown_le 61 (by decide) d (PyData.leavesShort_of_canLay0 61 d h.lay h.short)
  have l := h.wei
  rw [sizeLine_eq]
  omega
end G

namespace K04
open PySem PySem.Spec PyProof.Rows L2 G
section
variable {P : Program} {w : World} {K : PySem.W.Frag} {mg : Str → Option Value} {base : Heap} {f : Addr} {fd : FuncData} {k : Nat}
/-! ### places -/
theorem scPair : FnScope ["thing"] ["thing"] (defScope sPair) := ⟨rfl, rfl, rfl, by decide +kernel, rfl, by decide +kernel, by decide +kernel⟩
def SPair : GSpec := fun rs M Kk => ∃ p, rs = [pld p] ∧ M = [] ∧ ∀ M', Kk (.pu (.bool true)) M'
theorem whole_mono : ∀ rs M Kk Kk', SWhole rs M Kk → (∀ r M', Kk r M' → Kk' r M') → SWhole rs M Kk' := fun rs M Kk Kk' ⟨i, e, m, q⟩ h => ⟨i, e, m, h _ _ q⟩
theorem fPair (F : Fun K "is_pair" "is_pair" sPair f fd) (b : Bl mg) (CW : Cal P w K mg base k "is_whole" sWhole ["thing"] SWhole) : FnG P w K mg base (k + 1) f fd ["thing"] SPair := by
  refine fnG F scPair (fun rs M Kk ⟨p, e, _⟩ => by rw [e]; rfl) fun cdv A outer s H hgd hr rs M Kk hS => ?_
  obtain ⟨p, rfl, rfl, q⟩ := hS
  refine bone (sret (gandV (gisi b.isi (gv 0 rfl (gty b.tuple boot_tuple ⟨"tuple", "tuple", true, .tup _, rfl, rfl, true, rfl, iteT ?_⟩)))))
  refine gandV (geqI (glen b.len (gv 0 rfl ⟨2, .tup, 2, rfl, gi ⟨2, rfl, true, rfl, iteT ?_⟩⟩)))
  refine gandV (gcalD whole_mono CW hgd hr (acons (gix (gv 0 rfl (gi ⟨(0 : Nat), .pu (.int p.1), rfl, .tup (atI_nat (j := 0) rfl), anil ⟨_, rfl, rfl, true, rfl, iteT ?_⟩⟩)))))
  exact gone (gcalD whole_mono CW hgd hr (acons (gix (gv 0 rfl (gi ⟨(1 : Nat), .pu (.int p.2), rfl, .tup (atI_nat (j := 1) rfl), anil ⟨_, rfl, rfl, q _⟩⟩)))))
abbrev NWithin : List Str := ["place", "rows", "columns", "row", "column"]
theorem scWithin : FnScope NWithin ["place", "rows", "columns"] (defScope sWithin) := ⟨rfl, rfl, rfl, by decide +kernel, rfl, by decide +kernel, by decide +kernel⟩
def SWithin : GSpec := fun rs M Kk => ∃ (p : Nat × Nat) (m n : Nat), rs = [pld p, .pu (.int m), .pu (.int n)] ∧ p.1 < m ∧ p.2 < n ∧ M = [] ∧ ∀ M', Kk (.pu (.bool true)) M'
theorem fWithin (F : Fun K "_is_within" "_is_within" sWithin f fd) (b : Bl mg) : FnG P w K mg base (k + 1) f fd ["place", "rows", "columns"] SWithin := by
  refine fnG F scWithin (fun rs M Kk ⟨p, m, n, e, _⟩ => by rw [e]; rfl) fun cdv A outer s H hgd hr rs M Kk hS => ?_
  obtain ⟨p, m, n, rfl, h1, h2, rfl, q⟩ := hS
  refine bcons (sasg (gv 0 rfl (tgtup rfl rfl (tgscons (tgname 3 (tgscons (tgname 4 (tgsnil ?_) scWithin.nd)) scWithin.nd)))))
  refine bone (sret (gand (glelt (gi ⟨0, rfl, gv 3 rfl ⟨_, rfl, iteY (decide_eq_true (by omega)) (gv 1 rfl ⟨_, rfl, true, ?_, iteT ?_⟩)⟩⟩))))
  · exact congrArg (fun b => SD.pu (.bool b)) (decide_eq_true (show (p.1 : Int) < m by omega))
  · refine glelt (gi ⟨0, rfl, gv 4 rfl ⟨_, rfl, iteY (decide_eq_true (by omega)) (gv 2 rfl ⟨_, rfl, ?_⟩)⟩⟩)
    have e : decide ((p.2 : Int) < n) = true := decide_eq_true (by omega)
    show Kk (.pu (.bool (decide ((p.2 : Int) < n)))) _
    rw [e]
    exact q _
theorem scCkPl : FnScope ["place", "rows", "columns"] ["place", "rows", "columns"] (defScope sCkPl) := ⟨rfl, rfl, rfl, by decide +kernel, rfl, by decide +kernel, by decide +kernel⟩
def SCkPl : GSpec := fun rs M Kk => ∃ (p : Nat × Nat) (m n : Nat), rs = [pld p, .pu (.int m), .pu (.int n)] ∧ p.1 < m ∧ p.2 < n ∧ M = [] ∧ ∀ M', Kk (.pu .none) M'
theorem fCkPl (F : Fun K "check_place" "check_place" sCkPl f fd) (b : Bl mg) (CP : Cal P w K mg base k "is_pair" sPair ["thing"] SPair) (CI : Cal P w K mg base k "_is_within" sWithin ["place", "rows", "columns"] SWithin) : FnG P w K mg base (k + 1) f fd ["place", "rows", "columns"] SCkPl := by
  refine fnG F scCkPl (fun rs M Kk ⟨p, m, n, e, _⟩ => by rw [e]; rfl) fun cdv A outer s H hgd hr rs M Kk hS => ?_
  obtain ⟨p, m, n, rfl, h1, h2, rfl, q⟩ := hS
  refine bone (sif (tor (tnot (tval (gcalP CP hgd hr (acons (gv 0 rfl (anil ⟨p, rfl, rfl, fun M' => ⟨true, rfl, iteF ?_⟩⟩))))))))
  exact tnot (tval (gcalP CI hgd hr (acons (gv 0 rfl (acons (gv 1 rfl (acons (gv 2 rfl (anil ⟨p, m, n, rfl, h1, h2, rfl, fun M' => ⟨true, rfl, iteF (bnil (q _))⟩⟩)))))))))
/-! ### what the search finds -/
theorem ckTab_mono : ∀ rs M Kk Kk', SCkTab rs M Kk → (∀ r M', Kk r M' → Kk' r M') → SCkTab rs M Kk' := fun rs M Kk Kk' ⟨T, n, t, e, m, q⟩ h => ⟨T, n, t, e, m, fun M' => h _ _ (q M')⟩
theorem ckPl_mono : ∀ rs M Kk Kk', SCkPl rs M Kk → (∀ r M', Kk r M' → Kk' r M') → SCkPl rs M Kk' := fun rs M Kk Kk' ⟨p, a, c, e, h1, h2, m, q⟩ h => ⟨p, a, c, e, h1, h2, m, fun M' => h _ _ (q M')⟩
theorem turned_mono : ∀ rs M Kk Kk', STurned rs M Kk → (∀ r M', Kk r M' → Kk' r M') → STurned rs M Kk' := fun rs M Kk Kk' ⟨T, n, t, e, m, q⟩ h => ⟨T, n, t, e, m, fun M' => h _ _ (q M')⟩
abbrev NFound : List Str := ["table", "place", "row", "column"]
theorem scFound : FnScope NFound ["table", "place"] (defScope sFound) := ⟨rfl, rfl, rfl, by decide +kernel, rfl, by decide +kernel, by decide +kernel⟩
def SFound : GSpec := fun rs M Kk => ∃ T n p, IsTab T n ∧ rs = [.pu (tab T), pld p] ∧ p.1 < T.length ∧ p.2 < n ∧ M = [] ∧ ∀ M', Kk (.pu (.bool (isF T n p.1 p.2))) M'
theorem fFound (F : Fun K "is_found" "is_found" sFound f fd) (b : Bl mg) (CT : Cal P w K mg base k "check_table" sCkTab ["table"] SCkTab) (CP : Cal P w K mg base k "check_place" sCkPl ["place", "rows", "columns"] SCkPl) (CW : Cal P w K mg base k "walk" sWalk ["table", "key"] SWalk) :
    FnG P w K mg base (k + 1) f fd ["table", "place"] SFound := by
  refine fnG F scFound (fun rs M Kk ⟨T, n, p, t, e, _⟩ => by rw [e]; rfl) fun cdv A outer s H hgd hr rs M Kk hS => ?_
  obtain ⟨T, n, p, t, rfl, h1, h2, rfl, q⟩ := hS
  have hu : A.units + 3 + 64 < cLine := by
    have z : A.units + 3 + 16 * k + 200 < cLine := hr.un
    omega
  refine bcons (sexpr (gcalD ckTab_mono CT hgd hr (acons (gv 0 rfl (anil ⟨T, n, t, rfl, rfl, fun _ => ?_⟩)))))
  refine bcons (sexpr (gcalD ckPl_mono CP hgd hr (acons (gv 1 rfl (acons (glen b.len (gv 0 rfl ⟨_, tab_len, acons (glen b.len (gix (gv 0 rfl (gi ⟨(0 : Nat), _, rfl, tab_ix t.pos, _, row_len, anil ⟨p, T.length, n, ?_, h1, h2, rfl, fun _ => ?_⟩⟩))))⟩)))))))
  · rw [t.row t.pos]
  refine bcons (sasg (gv 1 rfl (tgtup rfl rfl (tgscons (tgname 2 (tgscons (tgname 3 (tgsnil ?_) scFound.nd)) scFound.nd)))))
  refine bone (sret (geqD hu (gix (gcalD walk_mono CW hgd hr (acons (gv 0 rfl (acons (gix (gix (gv 0 rfl (gv 2 rfl ⟨(p.1 : Nat), _, rfl, tab_ix h1, gv 3 rfl ⟨(p.2 : Nat), _, rfl, val_ix t h1 h2, anil ⟨T, n, _, t, rfl, rfl, fun M' => gi ⟨(1 : Nat), _, rfl, .tup (atI_nat (j := 1) rfl), enD (run T n (val T p.1 p.2)).2, .pu _, rfl, gv 1 rfl ⟨plD p, .pu _, .pu _, rfl, ?_⟩⟩⟩⟩⟩)))))))))))
  have e := eqv_pl (run T n (val T p.1 p.2)).2.1 (run T n (val T p.1 p.2)).2.2 p.1 p.2
  show Kk (.pu (.bool (PyData.eqv (enD (run T n (val T p.1 p.2)).2) (plD p)))) _
  rw [e]
  exact q _
theorem scPlaces : FnScope ["table"] ["table"] (defScope sPlaces) := ⟨rfl, rfl, rfl, by decide +kernel, rfl, by decide +kernel, by decide +kernel⟩
theorem fPlaces (F : Fun K "found_places" "found_places" sPlaces f fd) (b : Bl mg) (CT : Cal P w K mg base k "check_table" sCkTab ["table"] SCkTab) (CF : Cal P w K mg base k "_places_found" sPF ["table"] SPF) : FnG P w K mg base (k + 1) f fd ["table"] SPF := by
  refine fnG F scPlaces (fun rs M Kk ⟨T, n, t, e, _⟩ => by rw [e]; rfl) fun cdv A outer s H hgd hr rs M Kk hS => ?_
  obtain ⟨T, n, t, rfl, rfl, q⟩ := hS
  refine bcons (sexpr (gcalD ckTab_mono CT hgd hr (acons (gv 0 rfl (anil ⟨T, n, t, rfl, rfl, fun _ => ?_⟩)))))
  exact bone (sret (gcalP CF hgd hr (acons (gv 0 rfl (anil ⟨T, n, t, rfl, rfl, q⟩)))))
theorem scAll : FnScope ["table"] ["table"] (defScope sAll) := ⟨rfl, rfl, rfl, by decide +kernel, rfl, by decide +kernel, by decide +kernel⟩
def SAll : GSpec := fun rs M Kk => ∃ T n, IsTab T n ∧ rs = [.pu (tab T)] ∧ M = [] ∧ ∀ M', Kk (.pu (.bool (decide (((foundIn T n).length : Int) = (T.length : Int) * (n : Int))))) M'
theorem fAll (F : Fun K "all_found" "all_found" sAll f fd) (b : Bl mg) (CT : Cal P w K mg base k "check_table" sCkTab ["table"] SCkTab) (CF : Cal P w K mg base k "_places_found" sPF ["table"] SPF) : FnG P w K mg base (k + 1) f fd ["table"] SAll := by
  refine fnG F scAll (fun rs M Kk ⟨T, n, t, e, _⟩ => by rw [e]; rfl) fun cdv A outer s H hgd hr rs M Kk hS => ?_
  obtain ⟨T, n, t, rfl, rfl, q⟩ := hS
  have h8 := t.le
  have h9 := t.nle
  refine bcons (sexpr (gcalD ckTab_mono CT hgd hr (acons (gv 0 rfl (anil ⟨T, n, t, rfl, rfl, fun _ => ?_⟩)))))
  refine bone (sret (geqI (glen b.len (gcalP CF hgd hr (acons (gv 0 rfl (anil ⟨T, n, t, rfl, rfl, fun l => ⟨_, .lst (.mem List.mem_cons_self), _, rfl, gmul (glen b.len (gv 0 rfl ⟨_, tab_len, _, rfl, glen b.len (gix (gv 0 rfl (gi ⟨(0 : Nat), _, rfl, tab_ix t.pos, _, row_len, _, rfl, ?_, _, rfl, ?_⟩)))⟩))⟩⟩)))))))
  · rw [t.row t.pos]
    exact .inl (by omega)
  · rw [t.row t.pos, List.length_map]
    exact q _
abbrev NBelow : List Str := ["table", "row", "column"]
theorem scBelow : FnScope NBelow ["table"] (defScope sBelow) := ⟨rfl, rfl, rfl, by decide +kernel, rfl, by decide +kernel, by decide +kernel⟩
def SBelow : GSpec := fun rs M Kk => ∃ T n, IsTab T n ∧ rs = [.pu (tab T)] ∧ M = [] ∧ ∀ l qs, List.Perm qs (belowOf T n) → qs.Pairwise lexLe → Kk (.rf (.ref l)) [(l, .lst (qs.map end_))]
theorem fBelow (F : Fun K "found_from_below" "found_from_below" sBelow f fd) (b : Bl mg) (CT : Cal P w K mg base k "check_table" sCkTab ["table"] SCkTab) (CF : Cal P w K mg base k "_places_found" sPF ["table"] SPF) (CN : Cal P w K mg base k "turned" sTurned ["table"] STurned) : FnG P w K mg base (k + 1) f fd ["table"] SBelow := by
  refine fnG F scBelow (fun rs M Kk ⟨T, n, t, e, _⟩ => by rw [e]; rfl) fun cdv A outer s H hgd hr rs M Kk hS => ?_
  obtain ⟨T, n, t, rfl, rfl, q⟩ := hS
  have t' := turn_is t
  refine bcons (sexpr (gcalD ckTab_mono CT hgd hr (acons (gv 0 rfl (anil ⟨T, n, t, rfl, rfl, fun _ => ?_⟩)))))
  refine bone (sret (gf (gsortedP b.sorted ?_)))
  refine glc (.pair 2 1) (own := [("row", 1), ("column", 2)]) rfl scBelow.nd (blkOk_by (N := NBelow) (sc := defScope sBelow) (by decide +kernel)) (fun _ _ _ _ _ => pg_tup rfl (pgs_cons (pg_name (i := 2) scBelow.nd rfl (.inl rfl)) (pgs_cons (pg_name (i := 1) scBelow.nd rfl (.inl rfl)) pgs_nil))) (by decide) (iglist (gz ?_))
  refine gcalP CF hgd hr (acons ?_)
  refine gcalD turned_mono CN hgd hr (acons (gv 0 rfl (anil ⟨T, n, t, rfl, rfl, fun M' => ?_⟩)))
  refine anil ⟨turn T n, T.length, t', rfl, rfl, fun l => ⟨l, (foundIn (turn T n) T.length).map plD, [], rfl, ?_, _, rfl, ?_⟩⟩
  · rw [pld_map]
    rfl
  · rw [List.length_map]
    refine lc_map (fun i => pld (((foundIn (turn T n) T.length).getD i (0, 0)).2, ((foundIn (turn T n) T.length).getD i (0, 0)).1)) (Nat.le_trans (found_len t') (by decide)) (fun i hi => ?_) fun l => ⟨belowOf T n, .mem ?_, fun l' qs h1 h2 => ?_⟩
    · rw [nth_map plD (0, 0) hi]
      refine ⟨_, rfl, ?_⟩
      rintro Y ⟨s', H', C, cl, fp, rfl⟩
      exact gtup (acons (gv 1 rfl (acons (gv 2 rfl (anil ⟨[.int _, .int _], rfl, le2, rfl, rfl⟩)))))
    · rw [range_map (foundIn (turn T n) T.length) (0, 0) (fun p => pld (p.2, p.1))]
      unfold belowOf
      rw [List.map_map]
      exact List.mem_cons_self
    · exact ⟨[(l', .lst (qs.map end_))], List.Sublist.cons_cons _ (List.nil_sublist _), q l' qs h1 h2⟩
abbrev NMissed : List Str := ["table", "found", "row", "column", "values", "value"]
/-- the values that stand at no found place, as the set comes to them -/
def missOf (T : Tab) (n : Nat) : List Int := mem2 T.length (fun _ => n) (fun i j => !((fvals T n).map PyData.int).any fun z => PyData.eqv z (.int (val T i j))) (val T)
def SMissed : GSpec := fun rs M Kk => ∃ T n, IsTab T n ∧ rs = [.pu (tab T)] ∧ M = [] ∧ ∀ l ns, ns.Pairwise (· < ·) → (∀ k, k ∈ ns ↔ k ∈ missOf T n) → Kk (.rf (.ref l)) [(l, .lst (pints ns))]
theorem shaped_ints (ns : List Int) : SeqAt.shaped (.list (ns.map .int)) = true := by
  have h : ∀ ns : List Int, PyData.canLayAll0 (ns.map .int) = true ∧ PyData.depthAll (ns.map .int) = 0 := by
    intro ns
    induction ns with
    | nil => exact ⟨rfl, rfl⟩
    | cons n ns ih => exact ⟨by simp only [List.map_cons, PyData.canLayAll0, PyData.canLay0, ih.1, Bool.and_self], by simp only [List.map_cons, PyData.depthAll, PyData.depth, ih.2, Nat.max_self]⟩
  unfold SeqAt.shaped
  simp only [PyData.canLay0, (h ns).1, PyData.depth, (h ns).2]
  rfl
end
end K04

namespace K04
open PySem PySem.Spec PyProof.Rows L2 G
abbrev sDraws : Stmt := topS 21
abbrev sNext : Stmt := topS 22
abbrev sOrder : Stmt := topS 23
abbrev sTable : Stmt := topS 24
abbrev sNearly : Stmt := topS 25
abbrev sLTurned : Stmt := topS 27
theorem cpow6 : CPow 10 6 := ⟨by decide, by decide, by decide⟩
theorem cdiv6 (a : Int) : CDiv a (10 ^ (6 : Int).toNat) := ⟨by decide, by decide⟩
/-! ### the draws -/
/-- a list of draws that has given at most N numbers -/
def DrAt (N : Nat) (xs : List SD) : Prop := ∃ (a : Int) (k : Nat) (b : Bool), xs = [.pu (.int a), .pu (.int k), .pu (.bool b)] ∧ k ≤ N
section
variable {P : Program} {w : World} {K : PySem.W.Frag} {mg : Str → Option Value} {base : Heap} {f : Addr} {fd : FuncData} {k : Nat}
abbrev NNext : List Str := ["_law_draws_here", "_law_k", "_law_number"]
theorem scNext : FnScope NNext ["_law_draws_here"] (defScope sNext) := ⟨rfl, rfl, rfl, by decide +kernel, rfl, by decide +kernel, by decide +kernel⟩
def SNext : GSpec := fun rs M Kk => ∃ D xs N, rs = [.rf (.ref D)] ∧ M = [(D, .lst xs)] ∧ DrAt N xs ∧ N ≤ 1000000 ∧ ∀ (n : Nat) ys, n < 2 ^ 31 → DrAt (N + 1) ys → Kk (.pu (.int n)) [(D, .lst ys)]
theorem fNext (F : Fun K "_law_next" "_law_next" sNext f fd) (b : Bl mg) : FnG P w K mg base (k + 1) f fd ["_law_draws_here"] SNext := by
  refine fnG F scNext (fun rs M Kk ⟨D, xs, N, e, _⟩ => by rw [e]; rfl) fun cdv A outer s H hgd hr rs M Kk hS => ?_
  obtain ⟨D, xs, N, rfl, rfl, ⟨a, j, bb, rfl, hj⟩, hN, q⟩ := hS
  have at0 : ∀ {u v w : SD}, atI [u, v, w] ((0 : Nat) : Int) = some u := fun {u v w} => atI_nat rfl
  have at1 : ∀ {u v w : SD}, atI [u, v, w] ((1 : Nat) : Int) = some v := fun {u v w} => atI_nat rfl
  have at2 : ∀ {u v w : SD}, atI [u, v, w] ((2 : Nat) : Int) = some w := fun {u v w} => atI_nat rfl
  refine bcons (sasg (gadd (gix (gv 0 rfl (gi ⟨(1 : Nat), _, rfl, .mem List.mem_cons_self at1, _, rfl, gi ⟨1, rfl, ?_⟩⟩)))))
  refine tgsub (gv 0 rfl (gi ⟨D, 1, 1, _, [], [], rfl, rfl, rfl, rfl, ?_⟩))
  refine bcons (sset 1 scNext.nd (gix (gv 0 rfl (gi ⟨(1 : Nat), _, rfl, .mem List.mem_cons_self at1, ?_⟩))))
  refine bcons (sif (tval (gix (gv 0 rfl (gi ⟨(2 : Nat), _, rfl, .mem List.mem_cons_self at2, bb, rfl, iteB (fun hb => ?_) fun hb => bnil ?_⟩)))))
  · have e6 : (10 : Int) ^ (6 : Int).toNat = 1000000 := by decide
    refine bcons (sset 2 scNext.nd (gmod (gint b.int (gix (gv 0 rfl (gi ⟨(0 : Nat), _, rfl, .mem List.mem_cons_self at0, _, rfl, a, rfl, gpow (gi ⟨10, rfl, gi ⟨6, rfl, cpow6, _, rfl, by decide, ?_⟩⟩)⟩))))))
    refine bcons (sasg (gdiv (gix (gv 0 rfl (gi ⟨(0 : Nat), _, rfl, .mem List.mem_cons_self at0, a, rfl, gpow (gi ⟨10, rfl, gi ⟨6, rfl, cpow6, _, rfl, cdiv6 a, ?_⟩⟩)⟩)))))
    refine tgsub (gv 0 rfl (gi ⟨D, 0, 0, _, [], [], rfl, rfl, rfl, rfl, ?_⟩))
    obtain ⟨n, e, hn⟩ : ∃ n : Nat, a % (10 : Int) ^ (6 : Int).toNat = n ∧ n < 2 ^ 31 := by
      have h1 := Int.emod_nonneg a (show (1000000 : Int) ≠ 0 by decide)
      have h2 := Int.emod_lt_of_pos a (show (0 : Int) < 1000000 by decide)
      rw [e6]
      exact ⟨(a % 1000000).toNat, (Int.toNat_of_nonneg h1).symm, by omega⟩
    refine bone (sret (gv 2 rfl ?_))
    rw [e]
    exact q n _ hn ⟨_, j + 1, bb, rfl, by omega⟩
  · have keep : DrAt (N + 1) [.pu (.int a), .pu (.int ((j : Int) + 1)), .pu (.bool bb)] := ⟨a, j + 1, bb, rfl, by omega⟩
    have hj2 : (j : Int) + 1 < 2 ^ 64 := by omega
    have md : ∀ (x m : Int), 0 < m → ∃ n : Nat, x % m = n ∧ (n : Int) < m := fun x m hm => ⟨(x % m).toNat, (Int.toNat_of_nonneg (Int.emod_nonneg x (by omega))).symm, by rw [Int.toNat_of_nonneg (Int.emod_nonneg x (by omega))]; exact Int.emod_lt_of_pos x hm⟩
    refine bcons (sset 2 scNext.nd (gmod (gint b.int (gmul ?_))))
    refine gadd (gadd (gmod (gint b.int (gix (gv 0 rfl (gi ⟨(0 : Nat), _, rfl, .mem List.mem_cons_self at0, a, rfl, _, rfl, gi ⟨1000003, rfl, by decide, _, rfl, ?_⟩⟩))))))
    refine gmul (gmul (gv 1 rfl ⟨_, rfl, gv 1 rfl ⟨_, rfl, .inl ⟨by omega, hj2⟩, _, rfl, gi ⟨7919, rfl, .inr ⟨by decide, by decide⟩, _, rfl, _, rfl, ?_⟩⟩⟩))
    refine gv 1 rfl ⟨_, rfl, _, rfl, gi ⟨48271, rfl, .inr ⟨by decide, by decide⟩, _, rfl, _, rfl, gi ⟨2147483629, rfl, by decide, ?_⟩⟩⟩
    obtain ⟨n1, e1, h1⟩ := md ((a % 1000003 + ((j : Int) + 1) * ((j : Int) + 1) * 7919 + ((j : Int) + 1)) * 48271) 2147483629 (by decide)
    rw [e1]
    refine bcons (sset 2 scNext.nd (gmod (gint b.int (gmul ?_))))
    refine gv 2 rfl ⟨_, rfl, gv 2 rfl ⟨_, rfl, .inl ⟨by omega, by omega⟩, _, rfl, _, rfl, gi ⟨2147483587, rfl, by decide, ?_⟩⟩⟩
    obtain ⟨n2, e2, h2⟩ := md ((n1 : Int) * n1) 2147483587 (by decide)
    rw [e2]
    refine bone (sret (gdiv (gmod (gint b.int (gmul ?_)))))
    refine gv 2 rfl ⟨_, rfl, gadd (gv 2 rfl ⟨_, rfl, gi ⟨2, rfl, _, rfl, .inl ⟨by omega, by omega⟩, _, rfl, _, rfl, ?_⟩⟩)⟩
    refine gi ⟨2147483579, rfl, by decide, _, rfl, gi ⟨7, rfl, ⟨by decide, by decide⟩, ?_⟩⟩
    obtain ⟨n3, e3, h3⟩ := md ((n2 : Int) * ((n2 : Int) + 2)) 2147483579 (by decide)
    rw [e3]
    have e4 : (n3 : Int) / 7 = ((n3 / 7 : Nat) : Int) := rfl
    rw [e4]
    exact q _ _ (by omega) keep
end
end K04

namespace K04
open PySem PySem.Spec PyProof.Rows L2 G
abbrev rgI (s : Nat) : List Int := (List.range s).map fun i : Nat => (i : Int)
theorem pints_len (ns : List Int) : (pints ns).length = ns.length := List.length_map ..
theorem pints_at {ns : List Int} {i : Nat} (h : i < ns.length) : (pints ns)[i]? = some (.pu (.int ns[i])) := by rw [List.getElem?_map, List.getElem?_eq_getElem h]; rfl
theorem pints_app (a b : List Int) : pints (a ++ b) = pints a ++ pints b := List.map_append
theorem pints_erase (ns : List Int) (i : Nat) : (pints ns).eraseIdx i = pints (ns.eraseIdx i) := by
  induction ns generalizing i with
  | nil => rfl
  | cons n ns ih =>
    cases i with
    | zero => rfl
    | succ i => exact congrArg (_ :: ·) (ih i)
section
variable {P : Program} {w : World} {K : PySem.W.Frag} {mg : Str → Option Value} {base : Heap} {f : Addr} {fd : FuncData} {k : Nat}
abbrev NOrder : List Str := ["_law_draws_here", "_law_size", "_law_left", "_law_told", "_law_k"]
theorem scOrder : FnScope NOrder ["_law_draws_here", "_law_size"] (defScope sOrder) := ⟨rfl, rfl, rfl, by decide +kernel, rfl, by decide +kernel, by decide +kernel⟩
def SOrder : GSpec := fun rs M Kk => ∃ (D : Addr) (xs : List SD) (N s : Nat), rs = [.rf (.ref D), .pu (.int s)] ∧ M = [(D, .lst xs)] ∧ DrAt N xs ∧ s ≤ 100 ∧ N + s ≤ 1000000 ∧ ∀ l (ns : List Int) ys, ns.Perm (rgI s) → DrAt (N + s) ys → Kk (.rf (.ref l)) [(D, .lst ys), (l, .lst (pints ns))]
theorem fOrder (F : Fun K "_law_order" "_law_order" sOrder f fd) (b : Bl mg) (CN : Cal P w K mg base k "_law_next" sNext ["_law_draws_here"] SNext) : FnG P w K mg base (k + 1) f fd ["_law_draws_here", "_law_size"] SOrder := by
  refine fnG F scOrder (fun rs M Kk ⟨D, xs, N, s, e, _⟩ => by rw [e]; rfl) fun cdv A outer s0 H hgd hr rs M Kk hS => ?_
  obtain ⟨D, xs, N, s, rfl, rfl, dr, hs, hN, q⟩ := hS
  refine bcons (sset 2 scOrder.nd (glistr rfl b.list b.range (gv 1 rfl ⟨s, rfl, by omega, fun L => ?_⟩)))
  refine bcons (sset 3 scOrder.nd (glst (anil ⟨Nat.zero_le _, fun t => ?_⟩)))
  refine gbperm (M2 := [(D, .lst xs), (t, .lst (pints [])), (L, .lst (pints (rgI s)))]) ?_ ?_
  · exact (List.perm_append_comm (l₁ := [(t, MO.lst []), (L, MO.lst (pints (rgI s)))]) (l₂ := [(D, MO.lst xs)]))
  refine bseq (fun ρ' M' => ∃ told ys z, ρ' = [.rf (.ref D), .pu (.int s), .rf (.ref L), .rf (.ref t), z] ∧ M' = [(D, .lst ys), (t, .lst (pints told)), (L, .lst (pints []))] ∧ List.Perm told (rgI s) ∧ DrAt (N + s) ys) ?_ fun ρ' M' h => ?_
  · refine sfor PassesOwn.never rfl (igr1 b.range (gv 1 rfl ⟨s, rfl, by omega, by omega, fun i ρ' M' => ∃ told left ys z, ρ' = [.rf (.ref D), .pu (.int s), .rf (.ref L), .rf (.ref t), z] ∧ M' = [(D, .lst ys), (t, .lst (pints told)), (L, .lst (pints left))] ∧ List.Perm (told ++ left) (rgI s) ∧ told.length = i ∧ DrAt (N + i) ys, ?_, fun i ρ' M' hi h => ?_, fun ρ' M' h => ?_⟩))
    · exact ⟨[], rgI s, xs, .un, rfl, rfl, .refl _, rfl, dr⟩
    · obtain ⟨told, left, ys, z, rfl, rfl, hp, hl, hd⟩ := h
      have hi : i < s := by simpa using hi
      have len : told.length + left.length = s := by
        have := hp.length_eq
        simpa using this
      refine tgname 4 ?_ scOrder.nd
      refine bone (sexpr (gapp (gv 3 rfl ⟨t, _, rfl, List.mem_cons_of_mem _ List.mem_cons_self, ?_⟩)))
      refine gpop (gv 2 rfl ⟨L, _, rfl, List.mem_cons_of_mem _ (List.mem_cons_of_mem _ List.mem_cons_self), ?_⟩)
      refine gmod (gint b.int (gcal CN hgd hr (acons (gv 0 rfl (anil ⟨[(D, .lst ys)], [(t, .lst (pints told)), (L, .lst (pints left))], .refl _, D, ys, N + i, rfl, rfl, hd, by omega, fun n ys' hn hd' => ?_⟩)))))
      have hlt : n % left.length < left.length := Nat.mod_lt _ (by omega)
      refine ⟨_, rfl, _, rfl, glen b.len (gv 2 rfl ⟨_, Len.lst (.mem (List.mem_cons_of_mem _ (List.mem_cons_of_mem _ List.mem_cons_self))), _, rfl, ?_, n % left.length, .pu (.int (left[n % left.length])), pints left, [(D, .lst ys'), (t, .lst (pints told))], [], ?_, rfl, by omega, pints_at hlt, pints told, [(D, .lst ys')], [(L, .lst (pints (left.eraseIdx (n % left.length))))], ?_, ?_, ?_⟩)⟩
      · rw [pints_len]
        omega
      · rw [pints_len]
        rfl
      · rw [pints_erase]
        rfl
      · rw [pints_len]
        omega
      · refine ⟨told ++ [left[n % left.length]], left.eraseIdx (n % left.length), ys', _, rfl, ?_, ?_, ?_, hd'⟩
        · rw [pints_app]
          rfl
        · have e := erase_perm left (n % left.length) _ (List.getElem?_eq_getElem hlt)
          have e2 := (List.Perm.append_left told e).trans hp
          rw [List.append_assoc]
          exact e2
        · rw [List.length_append, hl]
          rfl
    · obtain ⟨told, left, ys, z, rfl, rfl, hp, hl, hd⟩ := h
      have hl : told.length = s := by simpa using hl
      have el : left = [] := by
        have := hp.length_eq
        rw [List.length_append, List.length_map, List.length_range] at this
        exact List.length_eq_zero_iff.mp (by omega)
      subst el
      rw [List.append_nil] at hp
      refine ⟨told, ys, z, rfl, rfl, hp, ?_⟩
      simpa using hd
  · obtain ⟨told, ys, z, rfl, rfl, hp, hd⟩ := h
    refine bone (sret (gf (gv 3 rfl ⟨[(D, .lst ys), (t, .lst (pints told))], ?_, ?_⟩)))
    · exact List.Sublist.cons_cons _ (List.Sublist.cons_cons _ (List.nil_sublist _))
    · exact q t told ys hp hd
end
end K04

namespace G
open PySem PySem.Spec PyProof.Rows L2
section
variable {X : Cx} {ρ : List SD} {M : Mem} {Q : Kn} {pos p : Pos} {tg a b c : Expr} {QI : Nat → (Nat → SD) → Mem → Prop}
/-- range(lo, hi, c) -/
theorem igr3 (hm : X.mg "range" = none) (h : GE X ρ M a fun x M1 => ∃ lo, x = .pu (.int lo) ∧ GE X ρ M1 b fun y M2 => ∃ hi, y = .pu (.int hi) ∧ GE X ρ M2 c fun z M3 => ∃ st n, z = .pu (.int st) ∧ RgC lo hi st n ∧ QI n (fun i => .pu (.int (lo + (i : Int) * st))) M3)
    (hg : Gl X "range" := by rfl) (hs : starEach [a, b, c] X.env = (false, eval a X.env) :: starEach [b, c] X.env := by rfl) (hs2 : starEach [b, c] X.env = (false, eval b X.env) :: starEach [c] X.env := by rfl) (hs3 : starEach [c] X.env = (false, eval c X.env) :: starEach [] X.env := by rfl)
    (hpl : (backTo pos (starEach [b, c] X.env)).any (·.1) = false := by rfl) : GI X ρ M tg (.Call (.Name "range" p) [a, b, c] [] pos) QI := .mk fun B F H σ R' W S s => by
  refine wI_of (pi_range3 hg hm pA hs hpl) (wA_of (pa_cons pE (pa_cons pE (pa_cons pE pa_nil hs3) hs2) hs) (h B F H σ _ W S fun x M1 v F1 H1 hx W1 s1 vx => ?_))
  obtain ⟨lo, rfl, hx⟩ := hx
  have vx : Dt F1 v (.int lo) := vx
  cases vx
  refine hx B F1 H1 σ _ W1 (pMono s1 S) fun y M2 w F2 H2 hy W2 s2 wy => ?_
  obtain ⟨hi, rfl, hy⟩ := hy
  have wy : Dt F2 w (.int hi) := wy
  cases wy
  refine hy B F2 H2 σ _ W2 (pMono (s1.trans s2) S) fun z M3 u F3 H3 hz W3 s3 uz => ?_
  obtain ⟨st, n, rfl, hr, q⟩ := hz
  have uz : Dt F3 u (.int st) := uz
  cases uz
  exact ⟨lo, hi, st, n, rfl, hr, s _ _ M3 _ F3 H3 q W3 ((s1.trans s2).trans s3) git_rngC⟩
theorem cutL_nat {α : Type} {xs : List α} {i j : Nat} (h1 : i ≤ j) (h2 : j ≤ xs.length) : cutL xs (some (i : Int)) (some (j : Int)) = (xs.drop i).take (j - i) := by
  unfold cutL
  rw [HT.sIx_nat, HT.sIx_nat, Nat.min_eq_left h2, Nat.min_eq_left (Nat.le_trans h1 h2)]
end
end G

namespace K04
open PySem PySem.Spec PyProof.Rows L2 G
/-- values of a drawn table -/
abbrev VB (ns : List Int) : Prop := ∀ v ∈ ns, v.natAbs ≤ 10 ^ 40
theorem DrAt.mono {N N' : Nat} {xs : List SD} (h : DrAt N xs) (hn : N ≤ N') : DrAt N' xs := by
  obtain ⟨a, k, b, e, hk⟩ := h
  exact ⟨a, k, b, e, Nat.le_trans hk hn⟩
theorem rgc_all : ∀ m : Fin 9, ∀ n : Fin 9, 0 < m.val → 0 < n.val → Builtin.Range.small 0 ((m.val * n.val : Nat) : Int) (n.val : Int) = true ∧ Builtin.Range.rangeSize 0 ((m.val * n.val : Nat) : Int) (n.val : Int) = m.val := by decide +kernel
theorem rgc {m n : Nat} (h1 : 0 < m) (h2 : m ≤ 8) (h3 : 0 < n) (h4 : n ≤ 8) : RgC 0 ((m * n : Nat) : Int) (n : Int) m := by
  obtain ⟨a, b⟩ := rgc_all ⟨m, by omega⟩ ⟨n, by omega⟩ h1 h3
  exact ⟨by omega, by omega, a, b⟩
theorem flat_len {T : Tab} {n : Nat} (h : ∀ r ∈ T, r.length = n) : T.flatten.length = T.length * n := by
  induction T with
  | nil => simp
  | cons r T ih =>
    rw [List.flatten_cons, List.length_append, h r List.mem_cons_self, ih fun r hr => h r (List.mem_cons_of_mem _ hr), List.length_cons, Nat.succ_mul, Nat.add_comm]
/-- a list cut into rows -/
def rowsOf (m n : Nat) (L : List Int) : Tab := (List.range m).map fun i => (L.drop (i * n)).take n
theorem rows_row {m n i : Nat} {L : List Int} (hl : L.length = m * n) (h : i < m) : ((L.drop (i * n)).take n).length = n := by
  rw [List.length_take, List.length_drop, hl]
  have : (i + 1) * n ≤ m * n := Nat.mul_le_mul_right n h
  rw [Nat.succ_mul] at this
  omega
theorem rows_is {m n : Nat} {L : List Int} (h1 : 0 < m) (h2 : m ≤ 8) (h3 : 0 < n) (h4 : n ≤ 8) (hl : L.length = m * n) : IsTab (rowsOf m n L) n where
  pos := by simp [rowsOf, h1]
  le := by simp [rowsOf, h2]
  npos := h3
  nle := h4
  rows := fun r hr => by
    obtain ⟨i, hi, e⟩ := List.mem_map.mp hr
    rw [← e]
    exact rows_row hl (List.mem_range.mp hi)
theorem rows_vb {m n : Nat} {L : List Int} (h : VB L) : VB (rowsOf m n L).flatten := fun v hv => by
  obtain ⟨r, hr, hv⟩ := List.mem_flatten.mp hv
  obtain ⟨i, _, e⟩ := List.mem_map.mp hr
  rw [← e] at hv
  exact h v (List.mem_of_mem_drop (List.mem_of_mem_take hv))
theorem ixN_nat {len j : Nat} (h : j < len) : ixN len (j : Int) = some j := by
  unfold ixN
  rw [if_pos (by omega), if_pos (by omega)]
  simp
theorem pints_set (L : List Int) (i : Nat) (v : Int) : (pints L).set i (.pu (.int v)) = pints (L.set i v) := (List.map_set ..).symm
theorem pints_flat (T : Tab) : (T.map pints).flatten = pints T.flatten := by
  unfold pints
  rw [List.map_flatten]
theorem pints_cut (L : List Int) (i j : Nat) : ((pints L).drop i).take j = pints ((L.drop i).take j) := by
  unfold pints
  rw [List.map_take, List.map_drop]
theorem pints_pu (L : List Int) : pints L = (L.map PyData.int).map SD.pu := by
  rw [List.map_map]
  rfl
section
variable {P : Program} {w : World} {K : PySem.W.Frag} {mg : Str → Option Value} {base : Heap} {f : Addr} {fd : FuncData} {k : Nat}
abbrev NNearly : List Str := ["_law_draws_here", "_law_some", "_law_kind", "_law_told", "_law_wide", "_law_k", "_law_at", "_law_other"]
theorem scNearly : FnScope NNearly ["_law_draws_here", "_law_some", "_law_kind"] (defScope sNearly) := ⟨rfl, rfl, rfl, by decide +kernel, rfl, by decide +kernel, by decide +kernel⟩
def SNearly : GSpec := fun rs M Kk => ∃ (D : Addr) (xs : List SD) (N : Nat) (T : Tab) (n kind : Nat), rs = [.rf (.ref D), .pu (tab T), .pu (.int kind)] ∧ M = [(D, .lst xs)] ∧ DrAt N xs ∧ N ≤ 900000 ∧ IsTab T n ∧ VB T.flatten ∧ 3 ≤ kind ∧ kind < 6 ∧
  ∀ (T' : Tab) ys, IsTab T' n → T'.length = T.length → VB T'.flatten → DrAt (N + 20) ys → Kk (.pu (tab T')) [(D, .lst ys)]
theorem pick3 (kind : Nat) (h1 : 3 ≤ kind) (h2 : kind < 6) : ∃ q : Nat, 0 < q ∧ q ≤ 9 ∧ atI [SD.pu (.int 1), .pu (.int 4), .pu (.int 9)] ((kind : Int) - 3) = some (.pu (.int (q : Int))) := by
  obtain rfl | rfl | rfl : kind = 3 ∨ kind = 4 ∨ kind = 5 := by omega
  · exact ⟨1, by decide, by decide, rfl⟩
  · exact ⟨4, by decide, by decide, rfl⟩
  · exact ⟨9, by decide, by decide, rfl⟩
theorem fNearly (F : Fun K "_law_nearly" "_law_nearly" sNearly f fd) (b : Bl mg) (CN : Cal P w K mg base k "_law_next" sNext ["_law_draws_here"] SNext) : FnG P w K mg base (k + 1) f fd ["_law_draws_here", "_law_some", "_law_kind"] SNearly := by
  refine fnG F scNearly (fun rs M Kk ⟨D, xs, N, T, n, kind, e, _⟩ => by rw [e]; rfl) fun cdv A outer s0 H hgd hr rs M Kk hS => ?_
  obtain ⟨D, xs, N, T, n, kind, rfl, rfl, dr, hN, t, vb, hk1, hk2, q⟩ := hS
  have h8 := t.le
  have h9 := t.nle
  have fl := flat_len t.rows
  have hmn : T.length * n ≤ 64 := Nat.mul_le_mul h8 h9
  have hpos : 0 < T.length * n := Nat.mul_pos t.pos t.npos
  refine bcons (sset 3 scNearly.nd (gf (gsorted b.sorted (gsumL rfl b.sum (gv 1 rfl (glst (anil ⟨Nat.zero_le _, fun st => ⟨_, T.map pints, st, .pu, ?_, ?_, rfl, List.mem_cons_self, ?_, fun l0 => ⟨T.flatten, .mem ?_, fun l L hp hs => ⟨[(l, .lst (pints L)), (D, .lst xs)], ?_, ?_⟩⟩⟩⟩)))))) (hx := .inr rfl))
  · have lv : ∀ (T : Tab) (M : Mem), Paired (LV M) ((T.map rowD).map SD.pu) (T.map pints) := by
      intro T M
      induction T with
      | nil => exact .nil
      | cons r T ih =>
        refine .cons ?_ ih
        rw [pints_pu]
        exact .pu
    exact lv T _
  · have := t.pos
    intro e
    have e := congrArg List.length e
    simp at e
    rw [e] at this
    exact absurd this (by decide)
  · rw [pints_flat, pints_len, fl]
    omega
  · rw [pints_flat]
    exact List.mem_cons_self
  · exact List.Sublist.cons_cons _ (List.Sublist.cons _ (List.Sublist.cons _ (List.Sublist.refl _)))
  have hL : L.length = T.length * n := by rw [hp.length_eq, fl]
  have vL : VB L := fun v hv => vb v (hp.mem_iff.mp hv)
  clear hp hs
  refine bcons (sset 4 scNearly.nd (glen b.len (gix (gv 1 rfl (gi ⟨(0 : Nat), _, rfl, tab_ix t.pos, _, row_len, ?_⟩)))) (hx := .inr rfl))
  rw [t.row t.pos]
  refine bseq (fun ρ' M' => ∃ L ys z5 z6 z7, ρ' = [.rf (.ref D), .pu (tab T), .pu (.int kind), .rf (.ref l), .pu (.int n), z5, z6, z7] ∧ List.Sublist [(D, .lst ys), (l, .lst (pints L))] M' ∧ L.length = T.length * n ∧ VB L ∧ DrAt (N + 20) ys) ?_ fun ρ' M' h => ?_
  · refine sfor PassesOwn.never rfl (igr1 b.range (gmod (gint b.int (gcal CN hgd hr (acons (gv 0 rfl (anil ⟨[(D, .lst xs)], [(l, .lst (pints L))], List.Perm.swap .., D, xs, N, rfl, rfl, dr, by omega, fun n1 ys1 hn1 hd1 => ?_⟩)))))))
    obtain ⟨q3, hq1, hq2, hq3⟩ := pick3 kind hk1 hk2
    refine ⟨_, rfl, _, rfl, gix (glst ?_)⟩
    refine acons (gi (acons (gi (acons (gi (anil ⟨le3, fun l3 => ?_⟩))))))
    refine gsub (gv 2 rfl ⟨_, rfl, gi ⟨3, rfl, _, _, rfl, .mem List.mem_cons_self hq3, q3, rfl, by omega, _, rfl, ?_, ?_, ?_⟩⟩)
    · have := Int.emod_lt_of_pos (n1 : Int) (show (0 : Int) < q3 by omega)
      omega
    · have := Int.emod_nonneg (n1 : Int) (show (q3 : Int) ≠ 0 by omega)
      omega
    have cnt : ((n1 : Int) % (q3 : Int)).toNat ≤ 8 := by
      have := Int.emod_lt_of_pos (n1 : Int) (show (0 : Int) < q3 by omega)
      omega
    generalize ((n1 : Int) % (q3 : Int)).toNat = turns at cnt ⊢
    refine ⟨fun i ρ' M' => ∃ L ys z5 z6 z7, ρ' = [.rf (.ref D), .pu (tab T), .pu (.int kind), .rf (.ref l), .pu (.int n), z5, z6, z7] ∧ List.Sublist [(D, .lst ys), (l, .lst (pints L))] M' ∧ L.length = T.length * n ∧ VB L ∧ DrAt (N + 1 + 2 * i) ys, ?_, fun i ρ' M' hi h => ?_, fun ρ' M' h => ?_⟩
    · exact ⟨L, ys1, _, _, _, rfl, List.Sublist.cons _ (List.Sublist.refl _), hL, vL, hd1⟩
    · obtain ⟨L, ys, z5, z6, z7, rfl, sub, hL, vL, hd⟩ := h
      refine tgname 5 (gbforget sub ?_) scNearly.nd
      refine bcons (sset 6 scNearly.nd (gmod (gint b.int (gcal CN hgd hr (acons (gv 0 rfl (anil ⟨[(D, .lst ys)], [(l, .lst (pints L))], .refl _, D, ys, _, rfl, rfl, hd, by omega, fun n2 ys2 hn2 hd2 => ?_⟩)))))))
      refine ⟨_, rfl, _, rfl, glen b.len (gv 3 rfl ⟨_, Len.lst (.mem (List.mem_cons_of_mem _ List.mem_cons_self)), _, rfl, ?_, ?_⟩)⟩
      · rw [pints_len, hL]
        omega
      rw [pints_len, hL]
      obtain ⟨pp, ep, hpp⟩ : ∃ pp : Nat, (n2 : Int) % ((T.length * n : Nat) : Int) = pp ∧ pp < T.length * n := ⟨n2 % (T.length * n), rfl, Nat.mod_lt _ hpos⟩
      rw [ep]
      refine bcons (sset 7 scNearly.nd (gmin rfl b.min (gadd (gadd (gv 6 rfl ⟨_, rfl, gi ⟨1, rfl, _, rfl, ?_⟩⟩)))))
      refine gmod (gint b.int (gcal CN hgd hr (acons (gv 0 rfl (anil ⟨[(D, .lst ys2)], [(l, .lst (pints L))], .refl _, D, ys2, _, rfl, rfl, hd2, by omega, fun n3 ys3 hn3 hd3 => ?_⟩)))))
      refine ⟨_, rfl, _, rfl, gi ⟨3, rfl, by decide, _, rfl, _, rfl, gsub (glen b.len (gv 3 rfl ⟨_, Len.lst (.mem (List.mem_cons_of_mem _ List.mem_cons_self)), _, rfl, gi ⟨1, rfl, _, rfl, ?_⟩⟩))⟩⟩
      rw [pints_len, hL]
      obtain ⟨oo, eo, hoo⟩ : ∃ oo : Nat, (if ((T.length * n : Nat) : Int) - 1 < (pp : Int) + 1 + (n3 : Int) % 3 then ((T.length * n : Nat) : Int) - 1 else (pp : Int) + 1 + (n3 : Int) % 3) = oo ∧ oo < T.length * n := by
        have := Int.emod_nonneg (n3 : Int) (show (3 : Int) ≠ 0 by decide)
        split
        · exact ⟨T.length * n - 1, by omega, by omega⟩
        · exact ⟨((pp : Int) + 1 + (n3 : Int) % 3).toNat, by omega, by omega⟩
      rw [eo]
      have hp1 : pp < L.length := by omega
      have ho1 : oo < L.length := by omega
      refine bone (sasg (gtup (acons (gix (gv 3 rfl (gv 7 rfl ⟨(oo : Nat), .pu (.int L[oo]), rfl, .mem (List.mem_cons_of_mem _ List.mem_cons_self) (atI_nat (pints_at ho1)), ?_⟩))))))
      refine acons (gix (gv 3 rfl (gv 6 rfl ⟨(pp : Nat), .pu (.int L[pp]), rfl, .mem (List.mem_cons_of_mem _ List.mem_cons_self) (atI_nat (pints_at hp1)), anil ⟨[.int L[oo], .int L[pp]], rfl, le2, ?_⟩⟩)))
      refine tgtup rfl rfl (tgscons (tgsub (gv 3 rfl (gv 6 rfl ⟨l, pp, pp, pints L, [(D, .lst ys3)], [], rfl, rfl, rfl, ixN_nat (by rw [pints_len]; exact hp1), ?_⟩))))
      rw [pints_set]
      refine tgscons (tgsub (gv 3 rfl (gv 7 rfl ⟨l, oo, oo, pints (L.set pp L[oo]), [(D, .lst ys3)], [], rfl, rfl, rfl, ixN_nat (by rw [pints_len, List.length_set]; exact ho1), tgsnil ?_⟩)))
      rw [pints_set]
      refine ⟨(L.set pp L[oo]).set oo L[pp], ys3, _, _, _, rfl, List.Sublist.refl _, ?_, ?_, ?_⟩
      · rw [List.length_set, List.length_set, hL]
      · intro v hv
        rcases List.mem_or_eq_of_mem_set hv with h | h
        · rcases List.mem_or_eq_of_mem_set h with h | h
          · exact vL v h
          · rw [h]; exact vL _ (List.getElem_mem ho1)
        · rw [h]; exact vL _ (List.getElem_mem hp1)
      · exact hd3.mono (by omega)
    · obtain ⟨L, ys, z5, z6, z7, rfl, sub, hL, vL, hd⟩ := h
      exact ⟨L, ys, z5, z6, z7, rfl, sub, hL, vL, hd.mono (by omega)⟩
  · obtain ⟨L, ys, z5, z6, z7, rfl, sub, hL, vL, hd⟩ := h
    refine gbforget sub (bone (sret (gf (gz (glc (.name 6) (own := [("_law_at", 6)]) rfl scNearly.nd (blkOk_by (N := NNearly) (sc := defScope sNearly) (by decide +kernel)) (fun _ _ _ _ _ => pg_name (i := 6) scNearly.nd rfl (Or.inl rfl)) (by decide) (igr3 b.range (gi ⟨0, rfl, ?_⟩)))))))
    refine glen b.len (gv 3 rfl ⟨_, Len.lst (.mem (List.mem_cons_of_mem _ List.mem_cons_self)), _, rfl, gv 4 rfl ⟨(n : Int), T.length, rfl, ?_, ?_⟩⟩)
    · rw [pints_len, hL]
      exact rgc t.pos h8 t.npos h9
    refine lc_map (fun i => .pu (rowD ((L.drop (i * n)).take n))) (by omega) (fun i hi => ?_) fun l' => ⟨l', (rowsOf T.length n L).map rowD, [(D, .lst ys), (l, .lst (pints L))], rfl, ?_, [(D, .lst ys)], List.Sublist.cons_cons _ (List.nil_sublist _), q _ ys (rows_is t.pos h8 t.npos h9 hL) (by simp [rowsOf]) (rows_vb vL) hd⟩
    · refine ⟨_, rfl, ?_⟩
      rintro Y ⟨s', H', C, cl, fp, rfl⟩
      have e0 : (0 : Int) + (i : Int) * (n : Int) = ((i * n : Nat) : Int) := by rw [Int.zero_add, Int.natCast_mul]
      rw [e0]
      have hin : i * n + n ≤ L.length := by
        have : (i + 1) * n ≤ T.length * n := Nat.mul_le_mul_right n hi
        rw [Nat.succ_mul] at this
        omega
      refine gz (gsl (gv 3 rfl (show GO _ _ _ _ (some _) from gv 6 rfl ⟨_, rfl, show GO _ _ _ _ (some _) from gadd (gv 6 rfl ⟨_, rfl, gv 4 rfl ⟨_, rfl, _, rfl, pints L, .mem (List.mem_cons_of_mem _ List.mem_cons_self), fun l2 => ⟨l2, ((L.drop (i * n)).take n).map .int, _, rfl, ?_, rfl, rfl⟩⟩⟩)⟩)))
      have ec : ((i * n : Nat) : Int) + (n : Int) = ((i * n + n : Nat) : Int) := by rw [Int.natCast_add]
      rw [ec, cutL_nat (by omega) (by rw [pints_len]; exact hin), Nat.add_sub_cancel_left, pints_cut, pints_pu]
    · unfold rowsOf
      rw [List.map_map, List.map_map]
      rfl
end
end K04

namespace K04
open PySem PySem.Spec PyProof.Rows L2 G
abbrev intsD (L : List Int) : SD := .pu (.list (L.map .int))
theorem map_all {L : List Int} {φ : Int → Int} (c : Nat) (h : ∀ v ∈ L, (φ v).natAbs ≤ c) : ∀ v ∈ L.map φ, v.natAbs ≤ c := fun v hv => by
  obtain ⟨u, hu, e⟩ := List.mem_map.mp hv
  rw [← e]
  exact h u hu
/-- [e for v in xs] of ints, e a function of v: a new list, frozen -/
theorem lc_ints {X : Cx} {ρ : List SD} {M : Mem} {scope : Scope} {vs : List Nat} {elt : Expr} {Q : Kn} {j : Nat} {L : List Int} (φ : Int → Int) (hl : L.length ≤ 1000)
    (turn : ∀ v ∈ L, ∀ Y, Blk X scope Y → GE Y ((wipeR ρ vs).set j (.pu (.int v))) M elt fun r M2 => r = .pu (.int (φ v)) ∧ M2 = M) (fin : ∀ l, Q (.rf (.ref l)) ((l, .lst (((L.map φ).map PyData.int).map SD.pu)) :: M)) :
    LComp X scope ρ vs (.name j) [] elt Q (L.map PyData.int).length (nth (L.map PyData.int)) M := by
  rw [List.length_map]
  refine lc_map (fun i => .pu (.int (φ (L.getD i 0)))) (by omega) (fun i hi => ?_) fun l => ?_
  · rw [nth_map PyData.int 0 hi]
    exact ⟨_, rfl, turn _ (by rw [G.getD_at hi]; exact List.getElem_mem hi)⟩
  · rw [range_map L 0 (fun v => SD.pu (.int (φ v)))]
    have z := fin l
    rw [List.map_map, List.map_map] at z
    exact z
theorem gpm {X : Cx} {ρ : List SD} {M : Mem} {e : Expr} {Q : Kn} (h : GE X ρ M e fun r M' => ∃ M2, M'.Perm M2 ∧ Q r M2) : GE X ρ M e Q := .mk fun B F H σ Q' W S' s => h B F H σ Q' W S' fun r M' v F' H' q W' s' vv => by
  obtain ⟨M2, pm, q⟩ := q
  exact s r M2 v F' H' q (W'.perm pm) s' vv
/-- a and b, both of them tests that change nothing -/
theorem tandP {X : Cx} {ρ : List SD} {M : Mem} {a b : Expr} {pos : Pos} {QT : Bool → Mem → Prop} (k1 k2 : Bool) (h1 : GT X ρ M a fun k M' => k = k1 ∧ M' = M) (h2 : GT X ρ M b fun k M' => k = k2 ∧ M' = M) (h : QT (k1 && k2) M) : GT X ρ M (.BoolOp .And [a, b] pos) QT :=
  tand (h1.mono fun k M1 ⟨e1, e2⟩ => by
    subst e2
    subst e1
    cases k with
    | false => exact iteF h
    | true =>
      refine iteT (h2.mono fun k M2 ⟨e3, e4⟩ => ?_)
      subst e4
      subst e3
      exact h)
theorem order_small {s : Nat} {ns : List Int} (hp : ns.Perm (rgI s)) (hs : s ≤ 100) : ∀ v ∈ ns, v.natAbs ≤ 100 := fun v hv => by
  obtain ⟨i, hi, e⟩ := List.mem_map.mp (hp.mem_iff.mp hv)
  have := List.mem_range.mp hi
  omega
theorem pick4 (pick : Nat) : ∃ q : Nat, 0 < q ∧ q ≤ 90 ∧ atI [SD.pu (.int 1), .pu (.int 2), .pu (.int 4), .pu (.int 90)] ((pick : Int) / 4 % 4) = some (.pu (.int (q : Int))) := by
  have e : (pick : Int) / 4 % 4 = ((pick / 4 % 4 : Nat) : Int) := rfl
  rw [e]
  have h := Nat.mod_lt (pick / 4) (show 4 > 0 by decide)
  generalize pick / 4 % 4 = i at h ⊢
  obtain rfl | rfl | rfl | rfl : i = 0 ∨ i = 1 ∨ i = 2 ∨ i = 3 := by omega
  · exact ⟨1, by decide, by decide, rfl⟩
  · exact ⟨2, by decide, by decide, rfl⟩
  · exact ⟨4, by decide, by decide, rfl⟩
  · exact ⟨90, by decide, by decide, rfl⟩
section
variable {P : Program} {w : World} {K : PySem.W.Frag} {mg : Str → Option Value} {base : Heap} {f : Addr} {fd : FuncData} {k : Nat}
abbrev NTable : List Str := ["_law_draws_here", "_law_most", "_law_many", "_law_wide", "_law_kind", "_law_some", "_law_pick", "_law_told", "_law_value", "_law_one", "_law_row"]
theorem scTable : FnScope NTable ["_law_draws_here", "_law_most"] (defScope sTable) := ⟨rfl, rfl, rfl, by decide +kernel, rfl, by decide +kernel, by decide +kernel⟩
def STable : GSpec := fun rs M Kk => ∃ (D : Addr) (xs : List SD) (N most : Nat), rs = [.rf (.ref D), .pu (.int most)] ∧ M = [(D, .lst xs)] ∧ DrAt N xs ∧ N ≤ 800000 ∧ 0 < most ∧ most ≤ 8 ∧
  ∀ (T : Tab) (n : Nat) ys, IsTab T n → VB T.flatten → DrAt (N + 200) ys → Kk (.pu (tab T)) [(D, .lst ys)]
theorem small_md {n m : Nat} (h : 0 < m) : ∃ q : Nat, (1 : Int) + (n : Int) % (m : Int) = (q : Int) ∧ 0 < q ∧ q ≤ m := ⟨1 + n % m, by rw [Int.natCast_add, Int.natCast_emod]; rfl, by omega, by have := Nat.mod_lt n h; omega⟩
/-- one draw -/
theorem gnext {X : Cx} {ρ : List SD} {D : Addr} {ys : List SD} {N : Nat} {Mr : Mem} {Q : Kn} {p pos dp : Pos} (CN : Cal X.prog X.w X.K X.mg X.base k "_law_next" sNext ["_law_draws_here"] SNext) (hgd : X.A.guards = some []) (hr : Room k X.A) (hN : X.N[0]? = some (Str.ofString "_law_draws_here")) (hρ : ρ[0]? = some (.rf (.ref D)))
    (hvis : Vis X.env.scope "_law_draws_here") (hd : DrAt N ys) (hn : N ≤ 1000000) (q : ∀ (n : Nat) zs, n < 2 ^ 31 → DrAt (N + 1) zs → Q (.pu (.int n)) ((D, .lst zs) :: Mr)) (hg : Gl X "_law_next" := by rfl)
    (he : starEach [.Name "_law_draws_here" dp] X.env = (false, eval (.Name "_law_draws_here" dp) X.env) :: starEach [] X.env := by rfl) (hpl : (backTo pos (starEach [] X.env)).any (·.1) = false := by rfl) : GE X ρ ((D, .lst ys) :: Mr) (.Call (.Name "_law_next" p) [.Name "_law_draws_here" dp] [] pos) Q :=
  gcal CN hgd hr (acons (gv 0 hρ (anil ⟨[(D, .lst ys)], Mr, .refl _, D, ys, N, rfl, rfl, hd, hn, fun n zs h1 h2 => q n zs h1 h2⟩) (hN := hN) (hvis := hvis)) he) (hg := hg) (he := he) (hpl := hpl)
theorem fTable (F : Fun K "_law_table" "_law_table" sTable f fd) (b : Bl mg) (CN : Cal P w K mg base k "_law_next" sNext ["_law_draws_here"] SNext) (CO : Cal P w K mg base k "_law_order" sOrder ["_law_draws_here", "_law_size"] SOrder)
    (CL : Cal P w K mg base k "_law_nearly" sNearly ["_law_draws_here", "_law_some", "_law_kind"] SNearly) : FnG P w K mg base (k + 1) f fd ["_law_draws_here", "_law_most"] STable := by
  refine fnG F scTable (fun rs M Kk ⟨D, xs, N, most, e, _⟩ => by rw [e]; rfl) fun cdv A outer s0 H hgd hr rs M Kk hS => ?_
  obtain ⟨D, xs, N, most, rfl, rfl, dr, hN, hm1, hm8, q⟩ := hS
  refine bcons (sset 2 scTable.nd (gadd (gi ⟨1, rfl, gmod (gint b.int (gnext CN hgd hr rfl rfl (.inr (.inl rfl)) dr (by omega) fun r1 y1 h1 d1 => ⟨_, rfl, _, rfl, gv 1 rfl ⟨_, rfl, by omega, _, rfl, ?_⟩⟩))⟩)))
  obtain ⟨m, em, hm0, hmm⟩ := small_md (n := r1) hm1
  rw [em]
  refine bcons (sset 3 scTable.nd (gadd (gi ⟨1, rfl, gmod (gint b.int (gnext CN hgd hr rfl rfl (.inr (.inl rfl)) d1 (by omega) fun r2 y2 h2 d2 => ⟨_, rfl, _, rfl, gv 1 rfl ⟨_, rfl, by omega, _, rfl, ?_⟩⟩))⟩)) (hx := .inr rfl))
  obtain ⟨n, en, hn0, hnn⟩ := small_md (n := r2) hm1
  rw [en]
  refine bcons (sset 4 scTable.nd (gmod (gint b.int (gnext CN hgd hr rfl rfl (.inr (.inl rfl)) d2 (by omega) fun r3 y3 h3 d3 => ⟨_, rfl, _, rfl, gi ⟨7, rfl, by decide, ?_⟩⟩))))
  obtain ⟨kind, ek, hk7⟩ : ∃ kd : Nat, (r3 : Int) % 7 = kd ∧ kd < 7 := ⟨r3 % 7, rfl, Nat.mod_lt _ (by decide)⟩
  rw [ek]
  refine bcons (sset 5 scTable.nd (gz (gpm (gcal CO hgd hr (acons (gv 0 rfl (acons (gmul (gv 2 rfl ⟨_, rfl, gv 3 rfl ⟨_, rfl, .inl ⟨by omega, by omega⟩, anil ⟨[(D, .lst y3)], [], .refl _, D, y3, _, m * n, ?_, rfl, d3, ?_, ?_, fun l ns y4 hp d4 => ?_⟩⟩⟩)))))))) (hx := .inr rfl))
  · rw [Int.natCast_mul]
  · exact Nat.le_trans (Nat.mul_le_mul (Nat.le_trans hmm hm8) (Nat.le_trans hnn hm8)) (by decide)
  · have := Nat.mul_le_mul (Nat.le_trans hmm hm8) (Nat.le_trans hnn hm8)
    omega
  have hmn : m * n ≤ 64 := Nat.mul_le_mul (Nat.le_trans hmm hm8) (Nat.le_trans hnn hm8)
  refine ⟨[(l, .lst (pints ns)), (D, .lst y4)], List.Perm.swap .., l, ns.map .int, [(D, .lst y4)], rfl, by rw [pints_pu], ?_⟩
  have hl : ns.length = m * n := by rw [hp.length_eq]; simp
  have hb := order_small hp (by omega)
  clear hp
  refine bcons (sset 6 scTable.nd (gint b.int (gnext CN hgd hr rfl rfl (.inr (.inl rfl)) (d4.mono (show _ ≤ N + 70 by omega)) (by omega) fun pick y5 h5 d5 => ⟨_, rfl, ?_⟩)) (hx := .inr rfl))
  refine bseq (fun ρ' M' => ∃ L, ρ' = [.rf (.ref D), .pu (.int most), .pu (.int m), .pu (.int n), .pu (.int kind), intsD L, .pu (.int pick), .un, .un, .un, .un] ∧ M' = [(D, .lst y5)] ∧ L.length = m * n ∧ ∀ v ∈ L, v.natAbs ≤ 100) ?_ fun ρ' M' h => ?_
  · refine sif (teqI (gv 4 rfl ⟨_, rfl, gi ⟨0, rfl, iteB (fun _ => bone ?_) fun _ => bnil ⟨ns, rfl, rfl, hl, hb⟩⟩⟩))
    refine sset 5 scTable.nd (gz (glc (.name 8) (own := [("_law_value", 8)]) rfl scTable.nd (blkOk_by (N := NTable) (sc := defScope sTable) (by decide +kernel)) (fun _ _ _ _ _ => pg_name (i := 8) scTable.nd rfl (Or.inl rfl)) (by decide) (iglist (gv 5 rfl ⟨ns.map .int, rfl, ?_⟩)))) (hx := .inr rfl)
    refine lc_ints (L := ns) (fun v => v % (2 + (pick : Int) % 9)) (by omega) (fun v hv => ?_) fun l => ?_
    · rintro Y ⟨s', H', C, cl, fp, rfl⟩
      exact gmod (gint b.int (gv 8 rfl ⟨_, rfl, _, rfl, gadd (gi ⟨2, rfl, gmod (gint b.int (gv 6 rfl ⟨_, rfl, _, rfl, gi ⟨9, rfl, by decide, _, rfl, _, rfl, by omega, rfl, rfl⟩⟩))⟩)⟩))
    · refine ⟨l, _, _, rfl, rfl, _, rfl, rfl, by rw [List.length_map]; exact hl, map_all 100 fun v hv => ?_⟩
      have h1 := Int.emod_nonneg v (show (2 + (pick : Int) % 9) ≠ 0 by omega)
      have h2 := Int.emod_lt_of_pos v (show (0 : Int) < 2 + (pick : Int) % 9 by omega)
      omega
  obtain ⟨L, rfl, rfl, hl, hb⟩ := h
  refine bseq (fun ρ' M' => ∃ L ys, ρ' = [.rf (.ref D), .pu (.int most), .pu (.int m), .pu (.int n), .pu (.int kind), intsD L, .pu (.int pick), .un, .un, .un, .un] ∧ M' = [(D, .lst ys)] ∧ DrAt (N + 150) ys ∧ L.length = m * n ∧ VB L) ?_ fun ρ' M' h => ?_
  · have same : ∃ L' ys, ([.rf (.ref D), .pu (.int most), .pu (.int m), .pu (.int n), .pu (.int kind), intsD L, .pu (.int pick), .un, .un, .un, .un] : List SD) = [.rf (.ref D), .pu (.int most), .pu (.int m), .pu (.int n), .pu (.int kind), intsD L', .pu (.int pick), .un, .un, .un, .un] ∧ [(D, MO.lst y5)] = [(D, MO.lst ys)] ∧ DrAt (N + 150) ys ∧ L'.length = m * n ∧ VB L' :=
      ⟨L, y5, rfl, rfl, d5.mono (by omega), hl, fun v hv => Nat.le_trans (hb v hv) (by decide)⟩
    refine sif (teqI (gv 4 rfl ⟨_, rfl, gi ⟨1, rfl, iteB (fun _ => bone ?_) fun _ => bone ?_⟩⟩))
    · refine sset 5 scTable.nd (gz (glc (.name 8) (own := [("_law_value", 8)]) rfl scTable.nd (blkOk_by (N := NTable) (sc := defScope sTable) (by decide +kernel)) (fun _ _ _ _ _ => pg_name (i := 8) scTable.nd rfl (Or.inl rfl)) (by decide) (iglist (gv 5 rfl ⟨L.map .int, rfl, ?_⟩)))) (hx := .inr rfl)
      refine lc_ints (L := L) (fun v => (v - 7) * 10 ^ (17 : Int).toNat + (pick : Int) % 5) (by omega) (fun v hv => ?_) fun l => ?_
      · rintro Y ⟨s', H', C, cl, fp, rfl⟩
        refine gadd (gmul (gsub (gv 8 rfl ⟨_, rfl, gi ⟨7, rfl, _, rfl, gpow (gi ⟨10, rfl, gi ⟨17, rfl, ⟨by decide, by decide, by decide⟩, _, rfl, .inr ⟨by decide, by decide⟩, _, rfl, ?_⟩⟩)⟩⟩)))
        exact gmod (gint b.int (gv 6 rfl ⟨_, rfl, _, rfl, gi ⟨5, rfl, by decide, _, rfl, rfl, rfl⟩⟩))
      · refine ⟨l, _, _, rfl, rfl, _, y5, rfl, rfl, d5.mono (by omega), by rw [List.length_map]; exact hl, fun v hv => ?_⟩
        obtain ⟨u, hu, rfl⟩ := List.mem_map.mp hv
        have e17 : (10 : Int) ^ (17 : Int).toNat = 100000000000000000 := by decide
        rw [e17]
        have h1 := hb u hu
        have h2 := Int.emod_nonneg (pick : Int) (show (5 : Int) ≠ 0 by decide)
        have h3 := Int.emod_lt_of_pos (pick : Int) (show (0 : Int) < 5 by decide)
        omega
    · refine sif (tandP (decide ((kind : Int) = 6)) (decide ((0 : Int) < (pick : Int) % 4)) (teqI (gv 4 rfl ⟨_, rfl, gi ⟨6, rfl, rfl, rfl⟩⟩)) (tgt (gmod (gint b.int (gv 6 rfl ⟨_, rfl, _, rfl, gi ⟨4, rfl, by decide, _, rfl, gi ⟨0, rfl, rfl, rfl⟩⟩⟩)))) (iteB (fun _ => bone ?_) fun _ => bone ?_))
      · refine sset 5 scTable.nd (gz (glc (.name 9) (own := [("_law_one", 9)]) rfl scTable.nd (blkOk_by (N := NTable) (sc := defScope sTable) (by decide +kernel)) (fun _ _ _ _ _ => pg_name (i := 9) scTable.nd rfl (Or.inl rfl)) (by decide) (iglist (gv 5 rfl ⟨L.map .int, rfl, ?_⟩)))) (hx := .inr rfl)
        rw [List.length_map]
        refine ⟨by omega, fun i acc M' => ∃ L' ys, acc = pints L' ∧ L'.length = i ∧ VB L' ∧ DrAt (N + 72 + i) ys ∧ M' = [(D, .lst ys)], ⟨[], y5, rfl, rfl, fun v hv => absurd hv (List.not_mem_nil), d5.mono (by omega), rfl⟩, fun i acc M' hi _ h => ?_, fun acc M' _ h l => ?_⟩
        · obtain ⟨L', ys, rfl, hL', vL', hd, rfl⟩ := h
          rw [nth_map PyData.int 0 hi]
          refine ⟨_, rfl, fun Y hY => gts_nil (iteT ?_)⟩
          rintro Y2 ⟨s', H', C, cl, fp, rfl⟩
          obtain ⟨q4, hq1, hq2, hq3⟩ := pick4 pick
          refine gf (gmod (gint b.int (gnext CN hgd hr rfl rfl (.inr (.inl rfl)) hd (by omega) fun r z hr1 hd' => ⟨_, rfl, _, rfl, gix (glst ?_)⟩)))
          refine acons (gi (acons (gi (acons (gi (acons (gi (anil ⟨(by decide : 4 ≤ 100000), fun l4 => ?_⟩))))))))
          refine gmod (gdiv (gint b.int (gv 6 rfl ⟨_, rfl, _, rfl, gi ⟨4, rfl, ⟨by decide, by decide⟩, _, rfl, gi ⟨4, rfl, by decide, _, _, rfl, .mem List.mem_cons_self hq3, q4, rfl, by omega, [(D, .lst z)], ?_, L' ++ [(r : Int) % (q4 : Int)], z, ?_, ?_, ?_, hd'.mono (by omega), rfl⟩⟩⟩)))
          · exact List.Sublist.cons _ (List.Sublist.refl _)
          · rw [pints_app]
            rfl
          · rw [List.length_append, hL']
            rfl
          · intro v hv
            rcases List.mem_append.mp hv with h | h
            · exact vL' v h
            · rw [List.mem_singleton] at h
              have h2 := Int.emod_nonneg (r : Int) (show (q4 : Int) ≠ 0 by omega)
              have h3 := Int.emod_lt_of_pos (r : Int) (show (0 : Int) < q4 by omega)
              rw [h]
              exact Nat.le_trans (show ((r : Int) % (q4 : Int)).natAbs ≤ 90 by omega) (by decide)
        · obtain ⟨L', ys, rfl, hL', vL', hd, rfl⟩ := h
          exact ⟨l, L'.map .int, _, rfl, by rw [pints_pu], L', ys, rfl, rfl, hd.mono (by omega), by omega, vL'⟩
      · refine sif (tgt (gmod (gint b.int (gv 6 rfl ⟨_, rfl, _, rfl, gi ⟨4, rfl, by decide, _, rfl, gi ⟨1, rfl, iteB (fun _ => bone ?_) fun _ => bone ?_⟩⟩⟩))))
        · refine sset 5 scTable.nd (gz (glc (.name 8) (own := [("_law_value", 8)]) rfl scTable.nd (blkOk_by (N := NTable) (sc := defScope sTable) (by decide +kernel)) (fun _ _ _ _ _ => pg_name (i := 8) scTable.nd rfl (Or.inl rfl)) (by decide) (iglist (gv 5 rfl ⟨L.map .int, rfl, ?_⟩)))) (hx := .inr rfl)
          refine lc_ints (L := L) (fun v => (v - (pick : Int) % 29) ^ (3 : Int).toNat) (by omega) (fun v hv => ?_) fun l => ?_
          · rintro Y ⟨s', H', C, cl, fp, rfl⟩
            have h1 := hb v hv
            have h2 := Int.emod_nonneg (pick : Int) (show (29 : Int) ≠ 0 by decide)
            have h3 := Int.emod_lt_of_pos (pick : Int) (show (0 : Int) < 29 by decide)
            exact gpow (gsub (gv 8 rfl ⟨_, rfl, gmod (gint b.int (gv 6 rfl ⟨_, rfl, _, rfl, gi ⟨29, rfl, by decide, _, rfl, _, rfl, gi ⟨3, rfl, ⟨by decide, by decide, by omega⟩, rfl, rfl⟩⟩⟩))⟩))
          · refine ⟨l, _, _, rfl, rfl, _, y5, rfl, rfl, d5.mono (by omega), by rw [List.length_map]; exact hl, fun v hv => ?_⟩
            obtain ⟨u, hu, rfl⟩ := List.mem_map.mp hv
            have h1 := hb u hu
            have h2 := Int.emod_nonneg (pick : Int) (show (29 : Int) ≠ 0 by decide)
            have h3 := Int.emod_lt_of_pos (pick : Int) (show (0 : Int) < 29 by decide)
            have e3 : (3 : Int).toNat = 3 := rfl
            rw [e3, Int.natAbs_pow]
            exact Nat.le_trans (Nat.pow_le_pow_left (show (u - (pick : Int) % 29).natAbs ≤ 200 by omega) 3) (by decide)
        · refine sif (tandP (decide ((pick : Int) % 4 = 1)) (decide ((1 : Int) < (kind : Int))) (teqI (gmod (gint b.int (gv 6 rfl ⟨_, rfl, _, rfl, gi ⟨4, rfl, by decide, _, rfl, gi ⟨1, rfl, rfl, rfl⟩⟩⟩)))) (tgt (gv 4 rfl ⟨_, rfl, gi ⟨1, rfl, rfl, rfl⟩⟩)) (iteB (fun _ => bone ?_) fun _ => bnil same))
          refine sset 5 scTable.nd (gz (glc (.name 8) (own := [("_law_value", 8)]) rfl scTable.nd (blkOk_by (N := NTable) (sc := defScope sTable) (by decide +kernel)) (fun _ _ _ _ _ => pg_name (i := 8) scTable.nd rfl (Or.inl rfl)) (by decide) (iglist (gv 5 rfl ⟨L.map .int, rfl, ?_⟩)))) (hx := .inr rfl)
          refine lc_ints (L := L) (fun v => (v + (pick : Int) / 4 % 2) / 2) (by omega) (fun v hv => ?_) fun l => ?_
          · rintro Y ⟨s', H', C, cl, fp, rfl⟩
            refine gdiv (gadd (gv 8 rfl ⟨_, rfl, gmod (gdiv (gint b.int (gv 6 rfl ⟨_, rfl, _, rfl, gi ⟨4, rfl, ⟨by decide, by decide⟩, _, rfl, gi ⟨2, rfl, by decide, _, rfl, _, rfl, gi ⟨2, rfl, ⟨by decide, by decide⟩, rfl, rfl⟩⟩⟩⟩)))⟩))
          · refine ⟨l, _, _, rfl, rfl, _, y5, rfl, rfl, d5.mono (by omega), by rw [List.length_map]; exact hl, fun v hv => ?_⟩
            obtain ⟨u, hu, rfl⟩ := List.mem_map.mp hv
            have h1 := hb u hu
            have h2 := Int.emod_nonneg ((pick : Int) / 4) (show (2 : Int) ≠ 0 by decide)
            have h3 := Int.emod_lt_of_pos ((pick : Int) / 4) (show (0 : Int) < 2 by decide)
            exact Nat.le_trans (show ((u + (pick : Int) / 4 % 2) / 2).natAbs ≤ 200 by omega) (by decide)
  obtain ⟨L, ys, rfl, rfl, hd, hl, hb⟩ := h
  have hm8' : m ≤ 8 := Nat.le_trans hmm hm8
  have hn8' : n ≤ 8 := Nat.le_trans hnn hm8
  have t := rows_is hm0 hm8' hn0 hn8' hl
  have tl : (rowsOf m n L).length = m := by simp [rowsOf]
  have vt : VB (rowsOf m n L).flatten := rows_vb hb
  have td : ∀ (R : Tab), (R.map fun r => SD.pu (rowD r)) = (R.map rowD).map SD.pu := fun R => by
    rw [List.map_map]
    rfl
  refine bcons (ssetlc 7 (.name 10) (own := [("_law_row", 10)]) rfl scTable.nd rfl rfl (sw_true rfl rfl rfl (by decide +kernel)) (blkOk_by (N := NTable) (sc := defScope sTable) (by decide +kernel)) (fun _ _ _ _ _ => pg_name (i := 10) scTable.nd rfl (Or.inl rfl)) (by decide) (igr1 b.range (gv 2 rfl ⟨m, rfl, by omega, by omega, ?_⟩)))
  rw [Int.toNat_natCast]
  refine lc_map (fun i => .pu (rowD ((L.drop (i * n)).take n))) (by omega) (fun i hi => ?_) fun l => ?_
  · refine ⟨_, rfl, ?_⟩
    rintro Y ⟨s', H', C, cl, fp, rfl⟩
    have hin : i * n + n ≤ L.length := by
      have : (i + 1) * n ≤ m * n := Nat.mul_le_mul_right n hi
      rw [Nat.succ_mul] at this
      omega
    refine gz (gsl (gv 5 rfl (show GO _ _ _ _ (some _) from gmul (gv 10 rfl ⟨_, rfl, gv 3 rfl ⟨_, rfl, .inl ⟨by omega, by omega⟩, _, rfl, ?_⟩⟩))))
    refine (show GO _ _ _ _ (some _) from gadd (gmul (gv 10 rfl ⟨_, rfl, gv 3 rfl ⟨_, rfl, .inl ⟨by omega, by omega⟩, _, rfl, gv 3 rfl ⟨_, rfl, _, rfl, pints L, ?_, fun l2 => ⟨l2, ((L.drop (i * n)).take n).map .int, _, rfl, ?_, rfl, rfl⟩⟩⟩⟩)))
    · rw [pints_pu]
      exact .pu
    · have e1 : (i : Int) * (n : Int) = ((i * n : Nat) : Int) := by rw [Int.natCast_mul]
      have e2 : (i : Int) * (n : Int) + (n : Int) = ((i * n + n : Nat) : Int) := by rw [Int.natCast_add, Int.natCast_mul]
      rw [e2, e1, cutL_nat (by omega) (by rw [pints_len]; exact hin), Nat.add_sub_cancel_left, pints_cut, pints_pu]
  have told : (List.range m).map (fun i => SD.pu (rowD ((L.drop (i * n)).take n))) = ((rowsOf m n L).map rowD).map SD.pu := by
    unfold rowsOf
    rw [List.map_map, List.map_map]
    rfl
  rw [told]
  clear told
  generalize rowsOf m n L = T at t tl vt
  clear hb
  refine bcons (sif (teqI (gv 4 rfl ⟨_, rfl, gi ⟨2, rfl, iteB (fun _ => bone (sret ?_)) fun _ => bnil ?_⟩⟩)))
  · refine gz (glc (.name 10) (own := [("_law_row", 10)]) rfl scTable.nd (blkOk_by (N := NTable) (sc := defScope sTable) (by decide +kernel)) (fun _ _ _ _ _ => pg_name (i := 10) scTable.nd rfl (Or.inl rfl)) (by decide) (iglist (gz (gv 7 rfl ⟨l, T.map rowD, [(D, .lst ys)], rfl, rfl, _, rfl, ?_⟩))))
    rw [List.length_map]
    refine ⟨by omega, fun i acc M' => ∃ R : Tab, acc = (R.map fun r => SD.pu (rowD r)) ∧ R.length = i ∧ (∀ r ∈ R, r.length = n ∧ VB r) ∧ M' = [(D, .lst ys)], ⟨[], rfl, rfl, fun r hr => absurd hr (List.not_mem_nil), rfl⟩, fun i acc M' hi _ h => ?_, fun acc M' _ h l' => ?_⟩
    · obtain ⟨R, rfl, hR, hr1, rfl⟩ := h
      have hri := t.row hi
      have hrv : VB T[i] := fun v hv => vt v (List.mem_flatten.mpr ⟨T[i], List.getElem_mem hi, hv⟩)
      rw [nth_map rowD [] hi, G.getD_at hi]
      generalize T[i] = r at hri hrv
      refine ⟨_, rfl, fun Y hY => gts_nil (iteT ?_)⟩
      rintro Y2 ⟨s', H', C, cl, fp, rfl⟩
      refine gz (gsorted b.sorted (gv 10 rfl ⟨r, ?_, fun l2 ns' hp hs => ⟨l2, ns'.map .int, _, rfl, ?_, R ++ [ns'], ?_, ?_, ?_, rfl⟩⟩))
      · rw [pints_pu]
        exact .pu
      · rw [pints_pu]
      · rw [List.map_append]
        rfl
      · rw [List.length_append, hR]
        rfl
      · intro x hx
        rcases List.mem_append.mp hx with h | h
        · exact hr1 x h
        · rw [List.mem_singleton] at h
          rw [h]
          exact ⟨by rw [hp.length_eq, hri], fun v hv => hrv v (hp.mem_iff.mp hv)⟩
    · obtain ⟨R, rfl, hR, hr1, rfl⟩ := h
      refine ⟨l', R.map rowD, _, rfl, by rw [td], q R n ys ⟨by omega, by omega, hn0, hn8', fun r hr => (hr1 r hr).1⟩ (fun v hv => ?_) (hd.mono (by omega))⟩
      obtain ⟨r, hr, hv⟩ := List.mem_flatten.mp hv
      exact (hr1 r hr).2 v hv
  refine bcons (sif (GT.mono (Q1 := fun k M' => k = (decide ((2 : Int) < kind) && decide ((kind : Int) < 6)) ∧ M' = [(l, .lst ((T.map rowD).map SD.pu)), (D, .lst ys)]) (tltlt (gi ⟨2, rfl, gv 4 rfl ⟨_, rfl, ?_⟩⟩)) fun k M' ⟨e1, e2⟩ => ?_))
  · refine iteB (fun h => gi ⟨6, rfl, ?_, rfl⟩) fun h => ⟨?_, rfl⟩
    · have h : decide ((2 : Int) < kind) = true := h
      rw [h, Bool.true_and]
    · have h : decide ((2 : Int) < kind) = false := h
      rw [h, Bool.false_and]
  · subst e2
    refine iteB (fun h => bone (sret ?_)) fun _ => bnil ?_
    · rw [e1, Bool.and_eq_true] at h
      have h1 := of_decide_eq_true h.1
      have h2 := of_decide_eq_true h.2
      exact gcal CL hgd hr (acons (gv 0 rfl (acons (gz (gv 7 rfl ⟨l, T.map rowD, [(D, .lst ys)], rfl, rfl, acons (gv 4 rfl (anil ⟨[(D, .lst ys)], [], .refl _, D, ys, N + 150, T, n, kind, rfl, rfl, hd, by omega, t, vt, by omega, by omega, fun T' ys' t' _ vb' hd' => q T' n ys' t' vb' (hd'.mono (by omega))⟩))⟩)))))
    · exact bone (sret (gz (gv 7 rfl ⟨l, T.map rowD, [(D, .lst ys)], rfl, rfl, q T n ys t vt (hd.mono (by omega))⟩)))
end
end K04

namespace K04
open PySem PySem.Spec PyProof.Rows L2 G
section
variable {P : Program} {w : World} {K : PySem.W.Frag} {mg : Str → Option Value} {base : Heap} {f : Addr} {fd : FuncData} {k : Nat}
theorem scDraws : FnScope ["_law_cell"] ["_law_cell"] (defScope sDraws) := ⟨rfl, rfl, rfl, by decide +kernel, rfl, by decide +kernel, by decide +kernel⟩
def SDraws : GSpec := fun rs M Kk => ∃ c : Int, rs = [.pu (.int c)] ∧ M = [] ∧ ∀ l xs, DrAt 0 xs → Kk (.rf (.ref l)) [(l, .lst xs)]
theorem fDraws (F : Fun K "_law_draws" "_law_draws" sDraws f fd) (b : Bl mg) : FnG P w K mg base (k + 1) f fd ["_law_cell"] SDraws := by
  refine fnG F scDraws (fun rs M Kk ⟨c, e, _⟩ => by rw [e]; rfl) fun cdv A outer s0 H hgd hr rs M Kk hS => ?_
  obtain ⟨c, rfl, rfl, q⟩ := hS
  have p1 : CPow 10 60 := ⟨by decide, by decide, by decide⟩
  have p2 : CPowW ((10 : Int) ^ (60 : Int).toNat) 60 := ⟨by decide, by decide +kernel⟩
  have p3 : CPowW (((10 : Int) ^ (60 : Int).toNat) ^ (60 : Int).toNat) 4 := ⟨by decide, by decide +kernel⟩
  have pp : (0 : Int) < (((10 : Int) ^ (60 : Int).toNat) ^ (60 : Int).toNat) ^ (4 : Int).toNat := Int.pow_pos (Int.pow_pos (Int.pow_pos (by decide)))
  refine bone (sret (glst (acons (gmod (gint b.int (gv 0 rfl ⟨c, rfl, _, rfl, gpowW (gpowW (gpow (gi ⟨10, rfl, gi ⟨60, rfl, p1, _, rfl, gi ⟨60, rfl, p2, _, rfl, gi ⟨4, rfl, p3, _, rfl, pp, ?_⟩⟩⟩⟩)))⟩))))))
  exact acons (gi (acons (gge (gv 0 rfl ⟨c, rfl, gpow (gi ⟨10, rfl, gi ⟨18, rfl, ⟨by decide, by decide, by decide⟩, _, rfl, anil ⟨le3, fun l => q l _ ⟨_, 0, _, rfl, Nat.le_refl _⟩⟩⟩⟩)⟩))))
/-! ### the law's own search -/
abbrev NWay : List Str := ["_law_net", "_law_a_key", "_law_told", "_law_x", "_law_y"]
def WyAt (T : Tab) (n : Nat) (key : Int) (fu : Nat) (ρ : List SD) (M : Mem) : Prop := ∃ (i c : Nat) (L : List (Nat × Nat)) (l : Addr),
  ρ = [.pu (tab T), .pu (.int key), .rf (.ref l), .pu (.int i), .pu (.int ((c : Int) - 1))] ∧ M = [(l, .lst (L.map pld))] ∧ i ≤ T.length ∧ c ≤ n ∧ (T.length - i) + c ≤ fu ∧ L.length + fu = T.length + n ∧ L ++ (go T key fu i c).1 = (run T n key).1 ∧ (go T key fu i c).2 = (run T n key).2
def WyEnd (T : Tab) (n : Nat) (key : Int) (ρ : List SD) (M : Mem) : Prop := ∃ (l : Addr), ρ = [.pu (tab T), .pu (.int key), .rf (.ref l), .pu (.int (run T n key).2.1), .pu (.int (run T n key).2.2)] ∧ M = [(l, .lst ((run T n key).1.map pld))]
end
end K04

namespace G
open PySem PySem.Spec PyProof.Rows L2
/-! ### sorted(triples of ints) -/
abbrev I3 := Int × Int × Int
def l3 (p q : I3) : Prop := p.1 < q.1 ∨ (p.1 = q.1 ∧ (p.2.1 < q.2.1 ∨ (p.2.1 = q.2.1 ∧ p.2.2 < q.2.2)))
instance (p q : I3) : Decidable (l3 p q) := by unfold l3; infer_instance
def l3B (p q : I3) : Bool := decide (l3 p q)
theorem swo_l3 (k : Value → I3) : SrtO.Swo fun v u => l3B (k v) (k u) := by
  refine ⟨fun x y h => ?_, fun x y z h1 h2 => ?_⟩
  · have a := of_decide_eq_true h
    refine decide_eq_false ?_
    unfold l3 at *
    omega
  · have a := of_decide_eq_false h1
    have b := of_decide_eq_false h2
    refine decide_eq_false ?_
    unfold l3 at *
    omega
def IsTrip (h : Heap) (v : Value) (p : I3) : Prop := ∃ a o t u r n, v = .ref a ∧ h.get? a = some o ∧ o.cls = .type "tuple" ∧ o.data = .seq #[.int p.1 t, .int p.2.1 u, .int p.2.2 r] n
theorem IsTrip.keeps {h h' : Heap} {v : Value} {p : I3} (q : IsTrip h v p) (k : ∀ b o, h.get? b = some o → o.cls = .type "tuple" → h'.get? b = some o) : IsTrip h' v p := by
  obtain ⟨a, o, t, u, r, n, e, ho, hc, hd⟩ := q
  exact ⟨a, o, t, u, r, n, e, k _ _ ho hc, hc, hd⟩
section
variable {prog : Program} {w : World} {A : Around} {E : Value → Shared → Prop} {s : Shared}
theorem trip_cmp {vs : List Value} {k : Value → I3} (hp : ∀ v ∈ vs, IsTrip s.heap v (k v)) : SrtO.Cmp prog w A s (tuples' true) (fun p => p.1 ∈ vs) (SrtO.lt2 fun v u => l3B (k v) (k u)) := by
  intro p q hm hm'
  have h1 := hp _ hm
  have h2 := hp _ hm'
  show wpAny (model prog w) A (keyLt' (tuples' true) p.1 q.1) (fun r s' => s' = s ∧ r = l3B (k p.1) (k q.1)) (fun _ _ => False) s
  generalize k p.1 = x at h1 ⊢
  generalize k q.1 = y at h2 ⊢
  obtain ⟨x1, x2, x3⟩ := x
  obtain ⟨y1, y2, y3⟩ := y
  obtain ⟨a, o, t, u, r, n, e, ho, hc, hd⟩ := h1
  obtain ⟨a', o', t', u', r', n', e', ho', hc', hd'⟩ := h2
  rw [e, e']
  refine PySem.W.kat_lt ho hd ho' hd' ?_
  show PySem.W.KatLex prog w A true (decide (3 < 3)) _ [(.int x1 t, .int y1 t'), (.int x2 u, .int y2 u'), (.int x3 r, .int y3 r')] 0 s
  refine PySem.W.kat_cons (SeqAt.EqAt.int_int x1 t y1 t' prog w _ _ ?_)
  refine PySem.W.kat_go (fun e1 => ?_) (fun e1 => ?_)
  · have ex : x1 = y1 := by simpa using e1
    refine PySem.W.kat_yes (PySem.W.kat_cons (SeqAt.EqAt.int_int x2 u y2 u' prog w _ _ ?_))
    refine PySem.W.kat_go (fun e2 => ?_) (fun e2 => ?_)
    · have ey : x2 = y2 := by simpa using e2
      refine PySem.W.kat_yes (PySem.W.kat_cons (SeqAt.EqAt.int_int x3 r y3 r' prog w _ _ ?_))
      refine PySem.W.kat_go (fun e3 => ?_) (fun e3 => ?_)
      · have ez : x3 = y3 := by simpa using e3
        refine PySem.W.kat_yes (PySem.W.kat_nil ⟨rfl, (decide_eq_false ?_).symm⟩)
        unfold l3
        dsimp only
        omega
      · refine PySem.W.kat_no (PySem.W.kat_one _ _ (PyProof.Rows.lt_int ?_))
        refine (show s = s ∧ decide (x3 < y3) = l3B (x1, x2, x3) (y1, y2, y3) from ⟨rfl, ?_⟩)
        refine decide_eq_decide.mpr ?_
        unfold l3
        dsimp only
        omega
    · have ey : ¬ x2 = y2 := by simpa using e2
      refine PySem.W.kat_no (PySem.W.kat_one _ _ (PyProof.Rows.lt_int ?_))
      refine (show s = s ∧ decide (x2 < y2) = l3B (x1, x2, x3) (y1, y2, y3) from ⟨rfl, ?_⟩)
      refine decide_eq_decide.mpr ?_
      unfold l3
      dsimp only
      omega
  · have ex : ¬ x1 = y1 := by simpa using e1
    refine PySem.W.kat_no (oneLt_int ⟨rfl, ?_⟩)
    refine decide_eq_decide.mpr ?_
    unfold l3
    dsimp only
    omega
theorem firsts3 {h : Heap} {k : Value → I3} : ∀ {vs : List Value}, (∀ v ∈ vs, IsTrip h v (k v)) → ∃ fs : List Value, PySem.W.KatTups h vs fs ∧ fs.length = vs.length ∧ ∀ f ∈ fs, ∃ x t, f = Value.int x t
  | [], _ => ⟨[], PySem.W.KatTups.nil, rfl, fun _ hm => by simp at hm⟩
  | v :: vs, hp => by
    obtain ⟨fs, h1, h2, h3⟩ := firsts3 (k := k) (vs := vs) fun v' hm => hp v' (List.mem_cons_of_mem _ hm)
    obtain ⟨a, o, t, u, r, n, e, ho, hc, hd⟩ := hp v (List.mem_cons_self ..)
    generalize k v = z at hd
    subst e
    refine ⟨.int z.1 t :: fs, PySem.W.KatTups.cons ho hc hd rfl h1, by rw [List.length_cons, List.length_cons, h2], fun f hm => ?_⟩
    rcases List.mem_cons.mp hm with rfl | hm
    · exact ⟨z.1, t, rfl⟩
    · exact h3 f hm
theorem trips_sortable {a : Addr} {vs : List Value} {k : Value → I3} (h0 : 0 < vs.length) (hp : ∀ v ∈ vs, IsTrip s.heap v (k v)) (ha : ∀ o, s.heap.get? a = some o → o.cls ≠ .type "tuple") : SrtO.SortableO prog w A s a vs fun v u => l3B (k v) (k u) := by
  intro h' keep
  have hp' : ∀ v ∈ vs, IsTrip h' v (k v) := fun v hm => (hp v hm).keeps fun b o e c => keep b o (fun z => by subst z; exact ha o e c) e
  obtain ⟨fs, h1, h2, h3⟩ := firsts3 hp'
  refine ⟨tuples' true, fun Q E hq => ?_, trip_cmp hp'⟩
  refine PySem.W.kat_kind (T := .type "int") h1 (by omega) (fun f hm => ?_) (by rfl) ?_
  · obtain ⟨x, t, rfl⟩ := h3 f hm
    exact PySem.W.Looks.now
  · have e : (Value.type "int" != Value.type "tuple") = true := by first | decide +kernel | rfl | decide
    rw [e]
    exact hq
theorem sorted_trips {l : Addr} {vs : List Value} {k : Value → I3} {Q : Value → Shared → Prop} (hl : s.heap.IsList l vs.toArray) (hz : vs.length ≤ sizeLine) (hp : ∀ v ∈ vs, IsTrip s.heap v (k v))
    (h : ∀ (h' : Heap) (d : Addr) (out : List Value), SrtO.Srtd (fun v u => l3B (k v) (k u)) out → SrtO.Stb (fun v u => l3B (k v) (k u)) out vs → (∀ b o, s.heap.get? b = some o → h'.get? b = some o) → s.heap.objs.size ≤ d → (∃ n, h'.get? d = some (seqObj "list" out.toArray n)) → Q (.ref d) { s with heap := h' }) :
    wpAny (model prog w) A (call (.builtin "sorted") [.ref l]) Q E s := by
  refine SrtO.sorted_ord (swo_l3 k) hl hz (fun h2 h₁ a ha kk => ?_) fun out hs hb => ?_
  · refine trips_sortable (s := { s with heap := h₁ }) (by omega) (fun v hm => (hp v hm).keeps fun b o e _ => (kk b o e).2) fun o e => ?_
    have e' : some o = some (seqObj "list" vs.toArray 0) := e.symm.trans ha
    cases e'
    intro c
    exact absurd (Value.type.inj c) (by decide)
  · exact h _ _ out hs hb (fun b o e => sortedAll_old e) (Nat.le_succ _) (sortedAll_at s.heap vs out.toArray)
end
abbrev t3D (p : I3) : PyData := .tuple [.int p.1, .int p.2.1, .int p.2.2]
abbrev t3 (p : I3) : SD := .pu (t3D p)
abbrev TrH (H : Hp) (as : List Addr) (ps : List I3) : Prop := Paired (fun (a : Addr) (p : I3) => H a = some (HO.tup [V.int p.1, V.int p.2.1, V.int p.2.2])) as ps
def trA (H : Hp) (a : Addr) : I3 := match H a with
  | some (.tup [.int i, .int j, .int k]) => (i, j, k)
  | _ => (0, 0, 0)
def trV (H : Hp) : Value → I3
  | .ref a => trA H a
  | _ => (0, 0, 0)
theorem trA_of {H : Hp} {a : Addr} {p : I3} (h : H a = some (HO.tup [V.int p.1, V.int p.2.1, V.int p.2.2])) : trA H a = p := by
  unfold trA
  rw [h]
theorem trH_map {H : Hp} : ∀ {as : List Addr} {ps : List I3}, TrH H as ps → as.map (trA H) = ps
  | _, _, .nil => rfl
  | _, _, .cons h t => by rw [List.map_cons, trA_of h, trH_map t]
theorem trH_mem {H : Hp} : ∀ {as : List Addr} {ps : List I3}, TrH H as ps → ∀ a ∈ as, H a = some (HO.tup [V.int (trA H a).1, V.int (trA H a).2.1, V.int (trA H a).2.2])
  | _, _, .cons h t, a, ha => by
    rcases List.mem_cons.mp ha with e | e
    · rw [e, trA_of h]
      exact h
    · exact trH_mem t a e
section
variable {X : Cx} {ρ : List SD} {M : Mem} {Q : Kn} {pos : Pos} {e : Expr}
def rSortT : List V → Hp → VK → Prop := fun vs H Q => ∃ (l : Addr) (as : List Addr) (ps : List I3), vs = [.ref l] ∧ H l = some (.lst (as.map V.ref)) ∧ TrH H as ps ∧
  ∀ (bs : List Addr) (d : Addr), bs.Perm as → (bs.map (trA H)).Pairwise (fun p q => ¬ l3 q p) → H d = none → Q (.ref d) (upd H d (.lst (bs.map V.ref)))
theorem cr_sortT : CallR X (.builtin "sorted") rSortT := by
  intro pins s σ H vs us Q I r h
  obtain ⟨l, as, ps, rfl, hl, hp, q⟩ := h
  rw [Vals.ref1 r]
  obtain ⟨hz, its, n, g1, g2, g3⟩ := I.lstM hl
  have eits := refs_of g1
  subst eits
  have L : LAt s.heap l (as.map Value.ref) := ⟨n, g3⟩
  have zz : (as.map Value.ref).length ≤ sizeLine := by
    rw [List.length_map]
    rw [List.length_map] at hz
    exact hz
  refine sorted_trips (k := trV H) L.isList zz (fun v hv => ?_) fun h' d out b1 b2 kp hd hat => ?_
  · obtain ⟨a, ha, rfl⟩ := List.mem_map.mp hv
    obtain ⟨z, its2, r2, o, ho, hc, m, hd⟩ := I.hok _ _ (trH_mem hp a ha)
    cases r2 with
    | cons r3 r4 =>
      cases r4 with
      | cons r4 r5 =>
        cases r5 with
        | cons r5 r6 =>
          cases r6
          obtain ⟨t1, rfl⟩ := r3
          obtain ⟨t2, rfl⟩ := r4
          obtain ⟨t3, rfl⟩ := r5
          exact ⟨a, o, t1, t2, t3, m, rfl, ho, hc, hd⟩
  · obtain ⟨bs, rfl, pb⟩ := refs_perm b2.perm
    obtain ⟨c, hc⟩ := hat
    have lb : (bs.map V.ref).length ≤ sizeLine := by
      rw [List.length_map, pb.length_eq]
      rw [List.length_map] at zz
      exact zz
    refine ⟨.ref d, upd H d (.lst (bs.map V.ref)), I.laid (t' := s.toks) kp hd ⟨lb, bs.map Value.ref, c, vals_refs bs, hc⟩, rfl, q bs d pb ?_ (I.hok.fresh hd)⟩
    rw [List.pairwise_map]
    rw [SrtO.Srtd, List.pairwise_map] at b1
    exact b1.imp fun {a b} h => of_decide_eq_false h
theorem trips_in {F H : Hp} (fh : Same F H) : ∀ {vs : List V} {ps : List I3}, Paired (VOk F) vs (ps.map t3) → ∃ as, vs = as.map V.ref ∧ TrH H as ps ∧ TrH F as ps
  | _, [], .nil => ⟨[], rfl, .nil, .nil⟩
  | _, p :: ps, .cons h t => by
    obtain ⟨as, e, a1, a2⟩ := trips_in fh t
    have h : Dt F _ (t3D p) := h
    cases h with
    | tup h1 h2 =>
      cases h2 with
      | cons x y =>
        cases x
        cases y with
        | cons x y =>
          cases x
          cases y with
          | cons x y =>
            cases x
            cases y
            subst e
            exact ⟨_ :: as, rfl, .cons (fh _ _ h1) a1, .cons h1 a2⟩
theorem trips_out {F : Hp} : ∀ {bs : List Addr} {qs : List I3}, TrH F bs qs → Paired (VOk F) (bs.map V.ref) (qs.map t3)
  | _, _, .nil => .nil
  | _, _, .cons h t => .cons (show Dt F (.ref _) (t3D _) from .tup h (.cons (.int _) (.cons (.int _) (.cons (.int _) .nil)))) (trips_out t)
/-- sorted(xs) of triples of ints: a new list -/
theorem gsortedT {p : Pos} (hm : X.mg "sorted" = none) (h : GE X ρ M e fun x M1 => ∃ ps : List I3, LV M1 x (ps.map t3) ∧ ∀ (l : Addr) (qs : List I3), qs.Perm ps → qs.Pairwise (fun p q => ¬ l3 q p) → Q (.rf (.ref l)) ((l, .lst (qs.map t3)) :: M1)) (hg : Gl X "sorted" := by rfl) (he : starEach [e] X.env = [(false, eval e X.env)] := by rfl) : GE X ρ M (.Call (.Name "sorted" p) [e] [] pos) Q :=
  gcb cr_sortT hm PyProof.Rows.boot_sorted (acons (h.mono fun x M1 ⟨ps, lv, q⟩ => anil fun B F H vs Q' W hvs s => by
    obtain ⟨v, rfl, hv⟩ := p1 hvs
    obtain ⟨p, ws, rfl, hp, pr⟩ := lv.at W hv
    obtain ⟨as, rfl, a1, a2⟩ := trips_in W.fh pr
    refine ⟨p, as, ps, rfl, hp, a1, fun bs d h1 h3 hd => ?_⟩
    have same : ∀ a ∈ bs, F a = some (HO.tup [V.int (trA H a).1, V.int (trA H a).2.1, V.int (trA H a).2.2]) := fun a ha => by
      have ha := h1.mem_iff.mp ha
      have e1 := trH_mem a2 a ha
      have e2 := trH_mem a1 a ha
      have e3 := W.fh _ _ e1
      rw [e2] at e3
      rw [e1, ← e3]
    have hb : ∀ {l : List Addr}, (∀ a ∈ l, F a = some (HO.tup [V.int (trA H a).1, V.int (trA H a).2.1, V.int (trA H a).2.2])) → TrH F l (l.map (trA H)) := by
      intro l
      induction l with
      | nil => exact fun _ => .nil
      | cons a l ih => exact fun h => .cons (h a List.mem_cons_self) (ih fun b hb => h b (List.mem_cons_of_mem _ hb))
    have pm : (bs.map (trA H)).Perm ps := by
      rw [← trH_map a1]
      exact h1.map _
    exact s _ _ _ F _ (q d _ pm h3) (W.newl hd (trips_out (hb same))) (Same.refl F) rfl) he) hg (he := he)
end
end G

namespace G
open PySem PySem.Spec PyProof.Rows L2
/-- a list is frozen, whatever it holds -/
theorem Wd.freezeG {B : Bs} {F H : Hp} {M : Mem} {p : Addr} {xs : List SD} (W : Wd B F H ((p, .lst xs) :: M)) : ∃ F' vs, Same F F' ∧ Wd B F' H M ∧ F' p = some (.lst vs) ∧ Paired (VOk F') vs xs := by
  obtain ⟨f1, vs, f2, f3⟩ := W.mem _ List.mem_cons_self
  have f1 : F p = none := f1
  have f2 : H p = some (.lst vs) := f2
  have nd : p ∉ M.map (·.1) ∧ (M.map (·.1)).Nodup := by
    have h := W.nd
    rw [List.map_cons] at h
    exact List.nodup_cons.mp h
  have sf : Same F (upd F p (.lst vs)) := by
    intro a u e
    rw [upd_ne (ne_of_none e f1)]
    exact e
  have other : ∀ {a : Addr}, a ≠ p → upd F p (.lst vs) a = F a := fun h => upd_ne h
  refine ⟨upd F p (.lst vs), vs, sf, ?_, upd_same, vMono sf f3⟩
  refine ⟨fun a u e => ?_, fun a u e => sf a u (W.f0 a u e), fun a u e => ?_, W.keep, W.dom, fun q hq => ?_, nd.2, fun q hq => W.new q (List.mem_cons_of_mem _ hq)⟩
  · rcases Classical.em (a = p) with z | z
    · rw [z, upd_same] at e
      rw [z, f2, e]
    · rw [other z] at e
      exact W.fh a u e
  · rcases Classical.em (a = p) with z | z
    · rw [z]
      exact .inr (W.new _ List.mem_cons_self)
    · rw [other z] at e
      exact W.fnew a u e
  · obtain ⟨g1, g2⟩ := W.mem q (List.mem_cons_of_mem _ hq)
    have ne : q.1 ≠ p := fun z => nd.1 (z ▸ List.mem_map_of_mem hq)
    exact ⟨(other ne).trans g1, g2.mono sf fun _ e => e⟩
theorem git_listG {K : PySem.W.Frag} {F : Hp} {a : Addr} {vs : List V} {xs : List SD} (h : F a = some (.lst vs)) (hd : Paired (VOk F) vs xs) : GIt F (Itl K a) xs.length (fun i => xs.getD i .un) where
  go := fun i F' H s1 s2 hi => by
    have hv : i < vs.length := by
      rw [Paired.length hd]
      exact hi
    exact ⟨vs, vs[i], .of (s2 _ _ (s1 _ _ h)), List.getElem?_eq_getElem hv⟩
  stop := fun F' H s1 s2 => ⟨vs, .of (s2 _ _ (s1 _ _ h)), Nat.le_of_eq (Paired.length hd)⟩
  yld := fun i B F' H M x H' hi s1 W y => by
    obtain ⟨rfl, y⟩ := y
    have g := y vs (.of (W.fh _ _ (s1 _ _ h)))
    obtain ⟨v, e1, e2⟩ := paired_at hd (List.getElem?_eq_getElem hi)
    have e : v = x := Option.some.inj (e1.symm.trans g)
    subst e
    refine ⟨F', Same.refl F', W, ?_⟩
    rw [List.getD_eq_getElem?_getD, List.getElem?_eq_getElem hi]
    exact SOk.mono s1 e2
/-- for x in l, l a new list: it is frozen -/
theorem igmem {X : Cx} {ρ : List SD} {M : Mem} {tg e : Expr} {QI : Nat → (Nat → SD) → Mem → Prop} (h : GE X ρ M e fun x M1 => ∃ l xs M2, x = .rf (.ref l) ∧ M1 = (l, .lst xs) :: M2 ∧ QI xs.length (fun i => xs.getD i .un) M2) : GI X ρ M tg e QI := .mk fun B F H σ R' W S s => by
  refine wI_of (pi_list pE) (h B F H σ _ W S fun x M1 v F1 H1 hx W1 s1 vx => ?_)
  obtain ⟨l, xs, M2, rfl, rfl, q⟩ := hx
  obtain rfl : v = .ref l := vx
  obtain ⟨F2, vs, s2, W2, h1, h2⟩ := W1.freezeG
  exact ⟨l, rfl, ⟨_, .of (W2.fh _ _ h1)⟩, s _ _ M2 _ F2 H1 q W2 (s1.trans s2) (git_listG h1 h2)⟩
end G

namespace G
open PySem PySem.Spec PyProof.Rows L2
section
variable {X : Cx} {ρ : List SD} {M : Mem} {Q : Kn} {QT : Bool → Mem → Prop} {pos : Pos} {a b e : Expr}
/-! ### is None, is not None -/
def dNon : PyData → Bool
  | .none => true
  | _ => false
theorem non_of {F : Hp} {v : V} {d : PyData} (h : Dt F v d) : decide (v = V.non) = dNon d := by
  cases h <;> first
    | rfl
    | exact decide_eq_false (fun z => nomatch z)
theorem rIsN_ {d : PyData} (q : Q (.pu (.bool (dNon d))) M) : RR X (fun x y H Q => y = .non ∧ Q (.bl (decide (x = .non))) H) (.pu d) (.pu .none) M Q := fun B F H v w Q' W hv hw s => by
  have hw : Dt F w .none := hw
  cases hw
  refine ⟨rfl, s _ M _ F H q W (Same.refl F) ?_⟩
  show Dt F _ _
  rw [non_of hv]
  exact .bl _
theorem rNotN_ {d : PyData} (q : Q (.pu (.bool (!dNon d))) M) : RR X (fun x y H Q => y = .non ∧ Q (.bl (!decide (x = .non))) H) (.pu d) (.pu .none) M Q := fun B F H v w Q' W hv hw s => by
  have hw : Dt F w .none := hw
  cases hw
  refine ⟨rfl, s _ M _ F H q W (Same.refl F) ?_⟩
  show Dt F _ _
  rw [non_of hv]
  exact .bl _
theorem tisN {j : Nat} {p : Pos} (h : GE X ρ M a fun x M1 => ∃ d, x = .pu d ∧ QT (dNon d) M1) : GT X ρ M (.Compare a [.Is] [.Constant .none j p] pos) QT := gtC op_isN (nomark _) (h.mono fun x M1 ⟨d, e, q⟩ => e ▸ gnon (rIsN_ ⟨_, rfl, q⟩))
theorem tnotN {j : Nat} {p : Pos} (h : GE X ρ M a fun x M1 => ∃ d, x = .pu d ∧ QT (!dNon d) M1) : GT X ρ M (.Compare a [.IsNot] [.Constant .none j p] pos) QT := gtC op_notN (nomark _) (h.mono fun x M1 ⟨d, e, q⟩ => e ▸ gnon (rNotN_ ⟨_, rfl, q⟩))
theorem gisN {j : Nat} {p : Pos} (h : GE X ρ M a fun x M1 => ∃ d, x = .pu d ∧ Q (.pu (.bool (dNon d))) M1) : GE X ρ M (.Compare a [.Is] [.Constant .none j p] pos) Q := geC op_isN (nomark _) (h.mono fun x M1 ⟨d, e, q⟩ => e ▸ gnon (rIsN_ q))
theorem gnotN {j : Nat} {p : Pos} (h : GE X ρ M a fun x M1 => ∃ d, x = .pu d ∧ Q (.pu (.bool (!dNon d))) M1) : GE X ρ M (.Compare a [.IsNot] [.Constant .none j p] pos) Q := geC op_notN (nomark _) (h.mono fun x M1 ⟨d, e, q⟩ => e ▸ gnon (rNotN_ q))
/-! ### xs[::k] of ints: ints -/
theorem ints_all : ∀ {ns : List Int} {us : List Value}, Vals (ns.map V.int) us → ∀ u ∈ us, ∃ i t, u = Value.int i t
  | [], _, .nil, u, hu => absurd hu List.not_mem_nil
  | n :: ns, _, .cons r t, u, hu => by
    rcases List.mem_cons.mp hu with e | hu
    · obtain ⟨t, rfl⟩ := r
      exact ⟨n, t, e⟩
    · exact ints_all t u hu
theorem all_ints : ∀ {us : List Value}, (∀ u ∈ us, ∃ i t, u = Value.int i t) → ∃ ns : List Int, Vals (ns.map V.int) us
  | [], _ => ⟨[], .nil⟩
  | u :: us, h => by
    obtain ⟨i, t, rfl⟩ := h u List.mem_cons_self
    obtain ⟨ns, v⟩ := all_ints fun w hw => h w (List.mem_cons_of_mem _ hw)
    exact ⟨i :: ns, .cons ⟨t, rfl⟩ v⟩
theorem pick_in {items : Array Value} {lo hi st : Option Int} : ∀ u ∈ (slicePick items lo hi st).toList, u ∈ items.toList := fun u hu => by
  unfold slicePick at hu
  obtain ⟨i, _, e⟩ := List.mem_filterMap.mp (by simpa using hu)
  have := Array.mem_of_getElem? e
  simpa using this
theorem pe_sl3 {te : TE} {st : Int} {j : Nat} {p2 p3 : Pos} (h0 : st ≠ 0) (he : PE X e te) : PE X (.Subscript e (.Slice none none (some (.Constant (.int st) j p3)) p2) pos)
    (fun σ H Q => te σ H fun x H1 => ∃ (a : Addr) (ns : List Int), x = V.ref a ∧ SqL X.K H1 a (ns.map V.int) ∧ ∀ (ks : List Int) p, ks.length ≤ ns.length → H1 p = none → Q (.ref p) (upd H1 p (.lst (ks.map V.int)))) := by
  refine ⟨fun pins s σ H Q I h => ?_⟩
  refine Subscript_ (thn (he.run pins s σ H _ I h) fun v s1 ⟨x, H1, I1, r1, q1⟩ => ?_)
  obtain ⟨a, ns, rfl, hx, q⟩ := q1
  cases r1
  refine wpAny_Slice ?_
  rw [evalPart_none]
  refine wpAny_pure ?_
  refine wpAny_pure ?_
  rw [evalPart_some]
  refine thn ((pe_int (X := X) (i := st)).run pins s1 σ H1 (fun v H' => v = .int st ∧ H' = H1) I1 ⟨rfl, rfl⟩) fun u s3 ⟨y, H3, I3, r3, e1, e2⟩ => ?_
  subst e1 e2
  obtain ⟨t, rfl⟩ := r3
  have I4 : Inv X pins σ H3 { s3 with heap := s3.heap.push { cls := .type "slice", data := .fields #[.none, .none, .int st t] } } := I3.kept (t' := s3.toks) fun b ob q => Heap.get?_push_of_some _ q
  obtain ⟨its, r, ht, hz⟩ := I4.list hx
  have rl := r.length
  refine tail_any (ops := [.ref a, .ref s3.heap.objs.size]) ht.isList.typeIs slot_list_getitem.lookup ?_ (by with_unfolding_all rfl)
  refine wpAny_getItem_list_slice ht.isList (Heap.IsSliceOf.new ..) .none .none (.int st t) (fun z => h0 (Option.some.inj z)) ?_ (by rw [List.size_toArray] <;> omega)
  obtain ⟨ks, hk⟩ := all_ints fun u hu => ints_all r u (by simpa using pick_in (items := its.toArray) (lo := none) (hi := none) (st := some st) u hu)
  have hle := slicePick_size_le its.toArray none none (some st)
  have kl := hk.length
  have kl2 : ks.length ≤ ns.length := by
    have h2 : its.toArray.size = its.length := List.size_toArray
    have h3 : (slicePick its.toArray none none (some st)).toList.length = (slicePick its.toArray none none (some st)).size := Array.length_toList
    rw [List.length_map] at kl rl
    rw [h3] at kl
    rw [h2] at hle
    omega
  have hz2 : ns.length ≤ sizeLine := by
    rw [List.length_map] at hz
    exact hz
  refine ⟨V.ref _, _, I4.laid (t' := s3.toks) (o := .lst (ks.map V.int)) (fun b ob q => Heap.get?_push_of_some _ q) (Nat.le_refl _) ?_, rfl, q ks _ kl2 (I4.hok.fresh (Nat.le_refl _))⟩
  exact ⟨by rw [List.length_map]; exact Nat.le_trans kl2 hz2, _, 0, hk, Heap.get?_push_size _ rfl⟩
/-- xs[::k] of ints: ints, no more than there are -/
theorem gsl3 {st : Int} {j : Nat} {p2 p3 : Pos} (h0 : st ≠ 0) (h : GE X ρ M e fun x M1 => ∃ ns, LV M1 x (pints ns) ∧ ∀ l (ks : List Int), ks.length ≤ ns.length → Q (.rf (.ref l)) ((l, .lst (pints ks)) :: M1)) : GE X ρ M (.Subscript e (.Slice none none (some (.Constant (.int st) j p3)) p2) pos) Q := .mk fun B F H σ Q' W S s => by
  refine wE_of (pe_sl3 h0 pE) (h B F H σ _ W S fun x M1 v F1 H1 hx W1 s1 vx => ?_)
  obtain ⟨ns, lv, q⟩ := hx
  obtain ⟨p, vs, rfl, hp, pr⟩ := lv.at W1 vx
  have e := ints_of pr
  subst e
  exact ⟨p, ns, rfl, .of hp, fun ks q' hk hq => s _ _ _ F1 _ (q q' ks hk) (W1.newl hq (of_ints ks)) s1 rfl⟩
end
end G

namespace G
/-! ### what paths do -/
theorem go_out {T : Tab} {k : Int} {i c : Nat} (h : ¬ (i < T.length ∧ 0 < c)) : ∀ f, go T k f i c = ([], ((i : Int), (c : Int) - 1))
  | 0 => rfl
  | f + 1 => by
    unfold go
    rw [if_neg h]
theorem go_eq {T : Tab} {k : Int} {f i c : Nat} (h : i < T.length) (h0 : 0 < c) (hv : val T i (c - 1) = k) : go T k (f + 1) i c = ([(i, c - 1)], ((i : Int), (c : Int) - 1)) := by
  show (if i < T.length ∧ 0 < c then _ else _) = _
  rw [if_pos ⟨h, h0⟩, if_pos hv]
theorem go_lt {T : Tab} {k : Int} {f i c : Nat} (h : i < T.length) (h0 : 0 < c) (hv : val T i (c - 1) < k) : go T k (f + 1) i c = ((i, c - 1) :: (go T k f (i + 1) c).1, (go T k f (i + 1) c).2) := by
  show (if i < T.length ∧ 0 < c then _ else _) = _
  rw [if_pos ⟨h, h0⟩, if_neg (by omega), if_pos hv]
theorem go_gt {T : Tab} {k : Int} {f i c : Nat} (h : i < T.length) (h0 : 0 < c) (hv : k < val T i (c - 1)) : go T k (f + 1) i c = ((i, c - 1) :: (go T k f i (c - 1)).1, (go T k f i (c - 1)).2) := by
  show (if i < T.length ∧ 0 < c then _ else _) = _
  rw [if_pos ⟨h, h0⟩, if_neg (by omega), if_neg (by omega)]
/-- the number of an end outside in the told order -/
def rk (m : Nat) (e : Int × Int) : Option Int := if e.2 < 0 then some e.1 else if e.1 = m then some ((m : Int) + e.2) else none
theorem rk_in {m : Nat} {x y : Int} (h1 : 0 ≤ y) (h2 : x < m) : rk m (x, y) = none := by
  unfold rk
  rw [if_neg (by show ¬ y < 0; omega), if_neg (by show ¬ x = m; omega)]
theorem rk_left {m : Nat} {i : Nat} : rk m ((i : Int), ((0 : Nat) : Int) - 1) = some (i : Int) := by
  unfold rk
  rw [if_pos (by show ((0 : Nat) : Int) - 1 < 0; omega)]
theorem rk_down {m c : Nat} (h : 0 < c) : rk m ((m : Int), (c : Int) - 1) = some ((m : Int) + ((c : Int) - 1)) := by
  unfold rk
  rw [if_neg (by show ¬ (c : Int) - 1 < 0; omega), if_pos rfl]
theorem rk_range {T : Tab} {k r : Int} : ∀ (f i c : Nat), (T.length - i) + c ≤ f → i ≤ T.length → (i < T.length ∨ 0 < c) → rk T.length (go T k f i c).2 = some r → (i : Int) ≤ r ∧ r ≤ (T.length : Int) + (c : Int) - 1
  | 0, i, c, hf, hi, ha, h => by omega
  | f + 1, i, c, hf, hi, ha, h => by
    by_cases h1 : i < T.length ∧ 0 < c
    · obtain ⟨h1, h2⟩ := h1
      rcases Int.lt_trichotomy (val T i (c - 1)) k with hv | hv | hv
      · rw [go_lt h1 h2 hv] at h
        have := rk_range f (i + 1) c (by omega) (by omega) (by omega) h
        omega
      · rw [go_eq h1 h2 hv] at h
        rw [rk_in (by omega) (by omega)] at h
        cases h
      · rw [go_gt h1 h2 hv] at h
        have := rk_range f i (c - 1) (by omega) (by omega) (by omega) h
        omega
    · rw [go_out h1] at h
      by_cases hc : c = 0
      · subst hc
        rw [rk_left] at h
        injection h with h
        omega
      · have : i = T.length := by omega
        subst this
        rw [rk_down (by omega)] at h
        injection h with h
        omega
theorem rk_mono {T : Tab} {k k' r r' : Int} (hk : k < k') : ∀ (f i c i' c' : Nat), (T.length - i) + c ≤ f → (T.length - i') + c' ≤ f → i ≤ i' → i + c' = i' + c → i' ≤ T.length → (i < T.length ∨ 0 < c) → (i' < T.length ∨ 0 < c') →
    rk T.length (go T k f i c).2 = some r → rk T.length (go T k' f i' c').2 = some r' → r ≤ r'
  | 0, i, c, i', c', hf, hf', hi, ho, hm, ha, ha', h, h' => by omega
  | f + 1, i, c, i', c', hf, hf', hi, ho, hm, ha, ha', h, h' => by
    have g := rk_range (f + 1) i c hf (by omega) ha h
    have g' := rk_range (f + 1) i' c' hf' hm ha' h'
    by_cases h1 : i < T.length ∧ 0 < c
    · by_cases h2 : i' < T.length ∧ 0 < c'
      · have ne : val T i (c - 1) ≠ k := fun e => by
          rw [go_eq h1.1 h1.2 e, rk_in (by omega) (by omega)] at h
          cases h
        have ne' : val T i' (c' - 1) ≠ k' := fun e => by
          rw [go_eq h2.1 h2.2 e, rk_in (by omega) (by omega)] at h'
          cases h'
        by_cases ei : i = i'
        · subst ei
          have ec : c = c' := by omega
          subst ec
          by_cases hv : val T i (c - 1) < k
          · rw [go_lt h1.1 h1.2 hv] at h
            rw [go_lt h1.1 h1.2 (by omega)] at h'
            exact rk_mono hk f (i + 1) c (i + 1) c (by omega) (by omega) (by omega) (by omega) (by omega) (by omega) (by omega) h h'
          · rw [go_gt h1.1 h1.2 (by omega)] at h
            by_cases hv' : val T i (c - 1) < k'
            · rw [go_lt h1.1 h1.2 hv'] at h'
              exact rk_mono hk f i (c - 1) (i + 1) c (by omega) (by omega) (by omega) (by omega) (by omega) (by omega) (by omega) h h'
            · rw [go_gt h1.1 h1.2 (by omega)] at h'
              exact rk_mono hk f i (c - 1) i (c - 1) (by omega) (by omega) (by omega) (by omega) (by omega) (by omega) (by omega) h h'
        · by_cases hv : val T i (c - 1) < k
          · rw [go_lt h1.1 h1.2 hv] at h
            by_cases hv' : val T i' (c' - 1) < k'
            · rw [go_lt h2.1 h2.2 hv'] at h'
              exact rk_mono hk f (i + 1) c (i' + 1) c' (by omega) (by omega) (by omega) (by omega) (by omega) (by omega) (by omega) h h'
            · rw [go_gt h2.1 h2.2 (by omega)] at h'
              exact rk_mono hk f (i + 1) c i' (c' - 1) (by omega) (by omega) (by omega) (by omega) (by omega) (by omega) (by omega) h h'
          · rw [go_gt h1.1 h1.2 (by omega)] at h
            by_cases hv' : val T i' (c' - 1) < k'
            · rw [go_lt h2.1 h2.2 hv'] at h'
              exact rk_mono hk f i (c - 1) (i' + 1) c' (by omega) (by omega) (by omega) (by omega) (by omega) (by omega) (by omega) h h'
            · rw [go_gt h2.1 h2.2 (by omega)] at h'
              exact rk_mono hk f i (c - 1) i' (c' - 1) (by omega) (by omega) (by omega) (by omega) (by omega) (by omega) (by omega) h h'
      · rw [go_out h2] at h'
        by_cases hc : c' = 0
        · omega
        · have : i' = T.length := by omega
          subst this
          rw [rk_down (by omega)] at h'
          injection h' with h'
          omega
    · rw [go_out h1] at h
      by_cases hc : c = 0
      · subst hc
        rw [rk_left] at h
        injection h with h
        omega
      · have e1 : i = T.length := by omega
        have e2 : i' = T.length := by omega
        have e3 : c' = c := by omega
        subst e1 e3
        rw [rk_down (by omega)] at h
        rw [e2, go_out (by omega), rk_down (by omega)] at h'
        injection h with h
        injection h' with h'
        omega
theorem road_mono {T : Tab} {k k' : Int} (hk : k ≤ k') : ∀ (s f i c i' c' : Nat) (p p' : Nat × Nat), i ≤ i' → i + c' = i' + c → (go T k f i c).1[s]? = some p → (go T k' f i' c').1[s]? = some p' → p.1 ≤ p'.1
  | s, 0, i, c, i', c', p, p', hi, ho, h, h' => by simp [go] at h
  | s, f + 1, i, c, i', c', p, p', hi, ho, h, h' => by
    by_cases h1 : i < T.length ∧ 0 < c
    · by_cases h2 : i' < T.length ∧ 0 < c'
      · obtain ⟨h1, h1'⟩ := h1
        obtain ⟨h2, h2'⟩ := h2
        match s with
        | 0 =>
          have e : p = (i, c - 1) := by
            rcases Int.lt_trichotomy (val T i (c - 1)) k with hv | hv | hv
            · rw [go_lt h1 h1' hv] at h
              exact (Option.some.inj h).symm
            · rw [go_eq h1 h1' hv] at h
              exact (Option.some.inj h).symm
            · rw [go_gt h1 h1' hv] at h
              exact (Option.some.inj h).symm
          have e' : p' = (i', c' - 1) := by
            rcases Int.lt_trichotomy (val T i' (c' - 1)) k' with hv | hv | hv
            · rw [go_lt h2 h2' hv] at h'
              exact (Option.some.inj h').symm
            · rw [go_eq h2 h2' hv] at h'
              exact (Option.some.inj h').symm
            · rw [go_gt h2 h2' hv] at h'
              exact (Option.some.inj h').symm
          rw [e, e']
          exact hi
        | s + 1 =>
          have ne : val T i (c - 1) ≠ k := fun e => by
            rw [go_eq h1 h1' e] at h
            simp at h
          have ne' : val T i' (c' - 1) ≠ k' := fun e => by
            rw [go_eq h2 h2' e] at h'
            simp at h'
          by_cases hv : val T i (c - 1) < k
          · rw [go_lt h1 h1' hv] at h
            by_cases hv' : val T i' (c' - 1) < k'
            · rw [go_lt h2 h2' hv'] at h'
              exact road_mono hk s f (i + 1) c (i' + 1) c' p p' (by omega) (by omega) (by simpa using h) (by simpa using h')
            · rw [go_gt h2 h2' (by omega)] at h'
              have ne2 : i ≠ i' := fun e => by
                subst e
                have : c = c' := by omega
                subst this
                omega
              exact road_mono hk s f (i + 1) c i' (c' - 1) p p' (by omega) (by omega) (by simpa using h) (by simpa using h')
          · rw [go_gt h1 h1' (by omega)] at h
            by_cases hv' : val T i' (c' - 1) < k'
            · rw [go_lt h2 h2' hv'] at h'
              exact road_mono hk s f i (c - 1) (i' + 1) c' p p' (by omega) (by omega) (by simpa using h) (by simpa using h')
            · rw [go_gt h2 h2' (by omega)] at h'
              exact road_mono hk s f i (c - 1) i' (c' - 1) p p' (by omega) (by omega) (by simpa using h) (by simpa using h')
      · rw [go_out h2] at h'
        simp at h'
    · rw [go_out h1] at h
      simp at h
/-- a search that ends inside has stood there after as many steps as its distance -/
theorem road_end {T : Tab} {k : Int} {x y : Nat} : ∀ (f i c : Nat), (go T k f i c).2 = ((x : Int), (y : Int)) → x < T.length → (T.length - i) + c ≤ f → i ≤ T.length → i ≤ x ∧ y + 1 ≤ c ∧ (go T k f i c).1[(x - i) + (c - 1 - y)]? = some (x, y)
  | 0, i, c, h, hx, hf, hi => by
    have h1 : (i : Int) = x := congrArg Prod.fst h
    omega
  | f + 1, i, c, h, hx, hf, hi => by
    by_cases h1 : i < T.length ∧ 0 < c
    · obtain ⟨h1, h2⟩ := h1
      rcases Int.lt_trichotomy (val T i (c - 1)) k with hv | hv | hv
      · rw [go_lt h1 h2 hv] at h ⊢
        obtain ⟨g1, g2, g3⟩ := road_end f (i + 1) c h hx (by omega) (by omega)
        refine ⟨by omega, g2, ?_⟩
        have e : x - i + (c - 1 - y) = (x - (i + 1) + (c - 1 - y)) + 1 := by omega
        rw [e]
        simpa using g3
      · rw [go_eq h1 h2 hv] at h ⊢
        have e1 : (i : Int) = x := congrArg Prod.fst h
        have e2 : (c : Int) - 1 = y := congrArg Prod.snd h
        have e3 : i = x := by omega
        have e4 : c - 1 = y := by omega
        refine ⟨by omega, by omega, ?_⟩
        rw [e3, e4, Nat.sub_self, Nat.sub_self]
        rfl
      · rw [go_gt h1 h2 hv] at h ⊢
        obtain ⟨g1, g2, g3⟩ := road_end f i (c - 1) h hx (by omega) (by omega)
        refine ⟨g1, by omega, ?_⟩
        have e : x - i + (c - 1 - y) = (x - i + (c - 1 - 1 - y)) + 1 := by omega
        rw [e]
        simpa using g3
    · rw [go_out h1] at h
      have e1 : (i : Int) = x := congrArg Prod.fst h
      have e2 : (c : Int) - 1 = y := congrArg Prod.snd h
      omega
theorem run_rk_mono {T : Tab} {n : Nat} {k k' r r' : Int} (t : IsTab T n) (hk : k < k') (h : rk T.length (run T n k).2 = some r) (h' : rk T.length (run T n k').2 = some r') : r ≤ r' :=
  rk_mono hk _ 0 n 0 n (by omega) (by omega) (Nat.le_refl _) rfl (Nat.zero_le _) (.inl t.pos) (.inl t.pos) h h'
theorem run_rk_range {T : Tab} {n : Nat} {k r : Int} (t : IsTab T n) (h : rk T.length (run T n k).2 = some r) : 0 ≤ r ∧ r ≤ (T.length : Int) + (n : Int) - 1 := rk_range _ 0 n (by omega) (Nat.zero_le _) (.inl t.pos) h
theorem run_road_mono {T : Tab} {n : Nat} {k k' : Int} (hk : k ≤ k') {s : Nat} {p p' : Nat × Nat} (h : (run T n k).1[s]? = some p) (h' : (run T n k').1[s]? = some p') : p.1 ≤ p'.1 :=
  road_mono hk s _ 0 n 0 n p p' (Nat.le_refl _) rfl h h'
/-- of found places with the same distance those further down have greater values -/
theorem found_down {T : Tab} {n : Nat} (t : IsTab T n) {p q : Nat × Nat} (hp : p ∈ foundIn T n) (hq : q ∈ foundIn T n) (hd : (p.1 : Int) - p.2 = (q.1 : Int) - q.2) (hx : p.1 < q.1) : val T p.1 p.2 < val T q.1 q.2 := by
  obtain ⟨p1, p2, pf⟩ := found_in hp
  obtain ⟨q1, q2, qf⟩ := found_in hq
  have pe := of_decide_eq_true pf
  have qe := of_decide_eq_true qf
  obtain ⟨_, a1, a2⟩ := road_end (T.length + n) 0 n pe p1 (by omega) (Nat.zero_le _)
  obtain ⟨_, b1, b2⟩ := road_end (T.length + n) 0 n qe q1 (by omega) (Nat.zero_le _)
  refine Classical.byContradiction fun hn => ?_
  have e : q.1 - 0 + (n - 1 - q.2) = p.1 - 0 + (n - 1 - p.2) := by omega
  rw [e] at b2
  have := run_road_mono (T := T) (n := n) (by omega : val T q.1 q.2 ≤ val T p.1 p.2) b2 a2
  have : q.1 ≤ p.1 := this
  omega
theorem val_in {T : Tab} {n i j : Nat} (t : IsTab T n) (hi : i < T.length) (hj : j < n) : val T i j ∈ T.flatten := by
  rw [t.val hi hj]
  exact List.mem_flatten.mpr ⟨T[i], List.getElem_mem hi, List.getElem_mem _⟩
/-- keys that no value parts go the same way -/
theorem go_same {T : Tab} {n : Nat} {k k' : Int} (t : IsTab T n) (h : ∀ v ∈ T.flatten, (v < k ↔ v < k') ∧ v ≠ k ∧ v ≠ k') : ∀ (f i c : Nat), c ≤ n → go T k f i c = go T k' f i c
  | 0, i, c, _ => rfl
  | f + 1, i, c, hc => by
    by_cases h1 : i < T.length ∧ 0 < c
    · obtain ⟨h1, h2⟩ := h1
      obtain ⟨a1, a2, a3⟩ := h _ (val_in t h1 (show c - 1 < n by omega))
      by_cases hv : val T i (c - 1) < k
      · rw [go_lt h1 h2 hv, go_lt h1 h2 (a1.mp hv), go_same t h f (i + 1) c hc]
      · have : ¬ val T i (c - 1) < k' := fun z => hv (a1.mpr z)
        rw [go_gt h1 h2 (by omega), go_gt h1 h2 (by omega), go_same t h f i (c - 1) (by omega)]
    · rw [go_out h1, go_out h1]
theorem go_low {T : Tab} {n : Nat} {k : Int} (t : IsTab T n) (h : ∀ v ∈ T.flatten, k < v) : ∀ (f c : Nat), c ≤ f → c ≤ n → (go T k f 0 c).2 = ((0 : Int), (-1 : Int))
  | 0, c, hf, hc => by
    have : c = 0 := by omega
    subst this
    rfl
  | f + 1, c, hf, hc => by
    by_cases h2 : 0 < c
    · rw [go_gt t.pos h2 (h _ (val_in t t.pos (by omega)))]
      exact go_low t h f (c - 1) (by omega) (by omega)
    · have : c = 0 := by omega
      subst this
      rw [go_out (by omega)]
      rfl
theorem go_high {T : Tab} {n : Nat} {k : Int} (t : IsTab T n) (h : ∀ v ∈ T.flatten, v < k) : ∀ (f i : Nat), T.length - i ≤ f → i ≤ T.length → (go T k f i n).2 = ((T.length : Int), (n : Int) - 1)
  | 0, i, hf, hi => by
    have : i = T.length := by omega
    rw [this]
    rfl
  | f + 1, i, hf, hi => by
    have := t.npos
    by_cases h2 : i < T.length
    · rw [go_lt h2 t.npos (h _ (val_in t h2 (by omega)))]
      exact go_high t h f (i + 1) (by omega) (by omega)
    · have : i = T.length := by omega
      rw [go_out (by omega), this]
theorem run_low {T : Tab} {n : Nat} {k : Int} (t : IsTab T n) (h : ∀ v ∈ T.flatten, k < v) : (run T n k).2 = ((0 : Int), (-1 : Int)) := go_low t h _ n (by omega) (Nat.le_refl _)
theorem run_high {T : Tab} {n : Nat} {k : Int} (t : IsTab T n) (h : ∀ v ∈ T.flatten, v < k) : (run T n k).2 = ((T.length : Int), (n : Int) - 1) := go_high t h _ 0 (by omega) (Nat.zero_le _)
theorem run_same {T : Tab} {n : Nat} {k k' : Int} (t : IsTab T n) (h : ∀ v ∈ T.flatten, (v < k ↔ v < k') ∧ v ≠ k ∧ v ≠ k') : run T n k = run T n k' := go_same t h _ 0 n (Nat.le_refl _)
/-- one step down or to the left -/
def Stp (x y x' y' : Int) : Prop := (x' = x + 1 ∧ y' = y) ∨ (x' = x ∧ y' = y - 1)
inductive Road : List (Nat × Nat) → Int × Int → Prop
  | at (p : Nat × Nat) : Road [p] ((p.1 : Int), (p.2 : Int))
  | out (p : Nat × Nat) (e : Int × Int) : Stp p.1 p.2 e.1 e.2 → Road [p] e
  | on (p q : Nat × Nat) (L : List (Nat × Nat)) (e : Int × Int) : Stp p.1 p.2 q.1 q.2 → Road (q :: L) e → Road (p :: q :: L) e
theorem go_head {T : Tab} {k : Int} {f i c : Nat} (h : i < T.length) (h0 : 0 < c) : ∃ L, (go T k (f + 1) i c).1 = (i, c - 1) :: L := by
  rcases Int.lt_trichotomy (val T i (c - 1)) k with hv | hv | hv
  · rw [go_lt h h0 hv]
    exact ⟨_, rfl⟩
  · rw [go_eq h h0 hv]
    exact ⟨_, rfl⟩
  · rw [go_gt h h0 hv]
    exact ⟨_, rfl⟩
theorem go_road {T : Tab} {k : Int} : ∀ (f i c : Nat), i < T.length → 0 < c → (T.length - i) + c ≤ f → Road (go T k f i c).1 (go T k f i c).2
  | 0, i, c, hi, hc, hf => by omega
  | f + 1, i, c, hi, hc, hf => by
    have hcc : ((c - 1 : Nat) : Int) = (c : Int) - 1 := by omega
    rcases Int.lt_trichotomy (val T i (c - 1)) k with hv | hv | hv
    · rw [go_lt hi hc hv]
      by_cases h2 : i + 1 < T.length
      · have r := go_road (k := k) f (i + 1) c h2 hc (by omega)
        obtain ⟨f', rfl⟩ : ∃ f', f = f' + 1 := ⟨f - 1, by omega⟩
        obtain ⟨L, eL⟩ := go_head (k := k) (f := f') h2 hc
        rw [eL] at r ⊢
        exact .on _ _ _ _ (.inl ⟨by show ((i + 1 : Nat) : Int) = (i : Int) + 1; omega, rfl⟩) r
      · rw [go_out (fun z => h2 z.1)]
        exact .out _ _ (.inl ⟨by show ((i + 1 : Nat) : Int) = (i : Int) + 1; omega, hcc.symm⟩)
    · rw [go_eq hi hc hv]
      have z := Road.at (i, c - 1)
      dsimp only at z
      rw [hcc] at z
      exact z
    · rw [go_gt hi hc hv]
      by_cases h2 : 0 < c - 1
      · have r := go_road (k := k) f i (c - 1) hi h2 (by omega)
        obtain ⟨f', rfl⟩ : ∃ f', f = f' + 1 := ⟨f - 1, by omega⟩
        obtain ⟨L, eL⟩ := go_head (k := k) (f := f') hi h2
        rw [eL] at r ⊢
        exact .on _ _ _ _ (.inr ⟨rfl, by show ((c - 1 - 1 : Nat) : Int) = ((c - 1 : Nat) : Int) - 1; omega⟩) r
      · rw [go_out (fun z => h2 z.2)]
        exact .out _ _ (.inr ⟨rfl, by show ((c - 1 : Nat) : Int) - 1 = ((c - 1 : Nat) : Int) - 1; omega⟩)
theorem run_road {T : Tab} {n : Nat} {k : Int} (t : IsTab T n) : Road (run T n k).1 (run T n k).2 := go_road _ 0 n t.pos t.npos (by omega)
theorem run_first {T : Tab} {n : Nat} {k : Int} (t : IsTab T n) : ∃ L, (run T n k).1 = (0, n - 1) :: L := by
  have := t.pos
  obtain ⟨f, e⟩ : ∃ f, T.length + n = f + 1 := ⟨T.length + n - 1, by omega⟩
  unfold run
  rw [e]
  exact go_head t.pos t.npos
end G

namespace G
open PySem PySem.Spec PyProof.Rows L2
section
variable {X : Cx} {ρ : List SD} {M : Mem} {Q : Kn} {QT : Bool → Mem → Prop} {pos : Pos} {a b e : Expr}
/-- a list that a name holds is frozen ahead of the next statements -/
theorem gbz (i : Nat) {l : Addr} {ds : List PyData} {M2 : Mem} {sts : List Stmt} {D : GD} (hr : ρ[i]? = some (.rf (.ref l))) (h : GB X (ρ.set i (.pu (.list ds))) M2 sts D) : GB X ρ ((l, .lst (ds.map .pu)) :: M2) sts D := .mk fun B F H σ D' W S s => by
  obtain ⟨F', s', W', d⟩ := W.freeze
  obtain ⟨o, ho, so⟩ := pget S hr
  have eo : o = some (.ref l) := by
    match o, so with
    | some v, so => exact congrArg some so
  subst eo
  have P := pset (σ := σ) (o := some (V.ref l)) (r := .pu (.list ds)) d i (pMono s' S)
  have es : σ.set i (some (V.ref l)) = σ := by
    refine List.ext_getElem? fun j => ?_
    rw [List.getElem?_set]
    by_cases e : i = j
    · subst e
      have hl : i < σ.length := by
        obtain ⟨h, _⟩ := List.getElem?_eq_some_iff.mp ho
        exact h
      rw [if_pos rfl, if_pos hl, ho]
    · rw [if_neg e]
  rw [es] at P
  exact h B F' H σ D' W' P (s.mono s')
/-- a new list is frozen, all others are forgotten -/
theorem gzn (h : GE X ρ M e fun r M' => ∃ l xs ds M2, r = .rf (.ref l) ∧ M' = (l, .lst xs) :: M2 ∧ xs = ds.map .pu ∧ Q (.pu (.list ds)) []) : GE X ρ M e Q :=
  gf (gz (h.mono fun r M' ⟨l, xs, ds, M2, e1, e2, e3, q⟩ => ⟨l, ds, M2, e1, by rw [e2, e3], [], List.nil_sublist _, q⟩))
theorem cutL_map {α β : Type} (f : α → β) (L : List α) (i j : Option Int) : cutL (L.map f) i j = (cutL L i j).map f := by
  unfold cutL
  rw [List.length_map, List.map_take, List.map_drop]
theorem cutL_1 {α : Type} (L : List α) : cutL L (some 1) none = L.drop 1 := by
  unfold cutL
  rw [show (some (1 : Int)) = some ((1 : Nat) : Int) from rfl, HT.sIx_nat, HT.sIx_none]
  cases L with
  | nil => rfl
  | cons x L =>
    have e : min 1 (x :: L).length = 1 := by
      rw [List.length_cons]
      omega
    rw [e, List.length_cons, Nat.add_sub_cancel]
    exact List.take_length
theorem atI_last {α β : Type} (f : α → β) (L : List α) (z : α) : atI ((L ++ [z]).map f) (-1) = some (f z) := by
  unfold atI ixN
  rw [if_neg (by decide), if_pos (by rw [List.length_map, List.length_append, List.length_singleton]; omega)]
  have e : ((-1 : Int) + (((L ++ [z]).map f).length : Int)).toNat = L.length := by
    rw [List.length_map, List.length_append, List.length_singleton]
    omega
  rw [e]
  show ((L ++ [z]).map f)[L.length]? = some (f z)
  rw [List.getElem?_map, List.getElem?_append_right (Nat.le_refl _), Nat.sub_self]
  rfl
theorem lv_rows {M : Mem} : ∀ (T : Tab), Paired (LV M) ((T.map rowD).map SD.pu) (T.map pints)
  | [] => .nil
  | r :: T => by
    refine .cons ?_ (lv_rows T)
    have e : pints r = (r.map PyData.int).map SD.pu := by
      rw [List.map_map]
      rfl
    rw [e]
    exact .pu
theorem pairwise_last : ∀ {L : List Int} {z : Int}, (L ++ [z]).Pairwise (· < ·) → ∀ x ∈ L ++ [z], x ≤ z := fun {L z} h x hx => by
  rcases List.mem_append.mp hx with h1 | h1
  · exact Int.le_of_lt ((List.pairwise_append.mp h).2.2 x h1 z (List.mem_singleton.mpr rfl))
  · rw [List.mem_singleton.mp h1]
    exact Int.le_refl _
theorem road_step : ∀ {L : List (Nat × Nat)} {e : Int × Int}, Road L e → ∀ (i : Nat) (p q : Nat × Nat), L[i]? = some p → L[i + 1]? = some q → Stp p.1 p.2 q.1 q.2
  | _, _, .at p, i, _, _, _, h => by simp at h
  | _, _, .out p e s, i, _, _, _, h => by simp at h
  | _, _, .on p q L e s r, 0, a, b, h, h' => by
    have h : p = a := by simpa using h
    have h' : q = b := by simpa using h'
    rw [← h, ← h']
    exact s
  | _, _, .on p q L e s r, i + 1, a, b, h, h' => road_step r i a b (by simpa using h) (by simpa using h')
theorem road_last : ∀ {L : List (Nat × Nat)} {e : Int × Int}, Road L e → ∃ M z, L = M ++ [z] ∧ (((z.1 : Int), (z.2 : Int)) = e ∨ Stp z.1 z.2 e.1 e.2)
  | _, _, .at p => ⟨[], p, rfl, .inl rfl⟩
  | _, _, .out p e s => ⟨[], p, rfl, .inr s⟩
  | _, _, .on p q L e s r => by
    obtain ⟨M, z, h1, h2⟩ := road_last r
    exact ⟨p :: M, z, by rw [h1]; rfl, h2⟩
end
end G

namespace G
open PySem PySem.Spec PyProof.Rows L2
theorem fm_list {α : Type} (L : List α) (d : α) (c : α → Bool) (g : α → SD) : fm L.length (fun i => c (L.getD i d)) (fun i => g (L.getD i d)) = (L.filter c).map g := by
  have h : ∀ m, m ≤ L.length → fm m (fun i => c (L.getD i d)) (fun i => g (L.getD i d)) = ((L.take m).filter c).map g := by
    intro m
    induction m with
    | zero => intro _; rfl
    | succ m ih =>
      intro hm
      have e : L.take (m + 1) = L.take m ++ [L[m]] := by rw [List.take_add_one, List.getElem?_eq_getElem hm]; rfl
      rw [fm_succ, ih (by omega), e, List.filter_append, G.getD_at hm]
      cases hc : c L[m] <;> simp [hc]
  have z := h L.length (Nat.le_refl _)
  rwa [List.take_length] at z
theorem fm_none (n : Nat) (g : Nat → SD) : fm n (fun _ => false) g = [] := by
  unfold fm
  rw [List.filter_eq_nil_iff.mpr (fun _ _ => Bool.false_ne_true)]
  rfl
theorem sort_uniq {α : Type} {R : α → α → Prop} (anti : ∀ a b, R a b → R b a → a = b) : ∀ {l1 l2 : List α}, l1.Perm l2 → l1.Pairwise R → l2.Pairwise R → l1 = l2
  | [], l2, hp, _, _ => (List.Perm.nil_eq hp)
  | a :: l1, [], hp, _, _ => absurd hp.length_eq (by simp)
  | a :: l1, b :: l2, hp, h1, h2 => by
    obtain ⟨a1, a2⟩ := List.pairwise_cons.mp h1
    obtain ⟨b1, b2⟩ := List.pairwise_cons.mp h2
    have e : a = b := by
      rcases List.mem_cons.mp (hp.mem_iff.mp List.mem_cons_self) with e | ha
      · exact e
      · rcases List.mem_cons.mp (hp.mem_iff.mpr List.mem_cons_self) with e | hb
        · exact e.symm
        · exact anti a b (a1 b hb) (b1 a ha)
    subst e
    rw [sort_uniq anti ((List.perm_cons a).mp hp) a2 b2]
theorem eqv_int (a b : Int) : PyData.eqv (.int a) (.int b) = decide (a = b) := by
  simp [PyData.eqv]
  rfl
theorem any_int (L : List Int) (v : Int) : ((L.map PyData.int).any fun z => PyData.eqv z (.int v)) = decide (v ∈ L) := by
  induction L with
  | nil => rfl
  | cons q L ih =>
    rw [List.map_cons, List.any_cons, ih, eqv_int]
    by_cases h : v = q
    · simp [h]
    · have : ¬ q = v := fun z => h z.symm
      simp [h, this]
theorem shaped_eqv {d : PyData} (h : SeqAt.shaped d = true) : PyData.eqv d d = true := by
  unfold SeqAt.shaped at h
  rw [Bool.and_eq_true] at h
  exact PySem.SeqAt.eqv_refl d h.1
theorem shaped_of {ds : List PyData} (k : Nat) (hk : k + 1 ≤ 64) (h : PyData.canLayAll0 ds = true) (hd : PyData.depthAll ds ≤ k) : SeqAt.shaped (.list ds) = true := by
  unfold SeqAt.shaped
  simp only [PyData.canLay0, h, Bool.true_and, PyData.depth]
  exact decide_eq_true (by omega)
theorem shaped_rd (L : List (Nat × Nat)) : SeqAt.shaped (.list (L.map plD)) = true := by
  have h : PyData.canLayAll0 (L.map plD) = true ∧ PyData.depthAll (L.map plD) ≤ 1 := by
    induction L with
    | nil => exact ⟨rfl, Nat.zero_le _⟩
    | cons p L ih => exact ⟨by simp [PyData.canLayAll0, PyData.canLay0, ih.1], by simp only [List.map_cons, PyData.depthAll, PyData.depth]; have := ih.2; omega⟩
  exact shaped_of 1 (by decide) h.1 h.2
theorem shaped_ints' (L : List Int) : SeqAt.shaped (.list (L.map .int)) = true := by
  have h : PyData.canLayAll0 (L.map .int) = true ∧ PyData.depthAll (L.map .int) ≤ 1 := by
    induction L with
    | nil => exact ⟨rfl, Nat.zero_le _⟩
    | cons p L ih => exact ⟨by simp [PyData.canLayAll0, PyData.canLay0, ih.1], by simp only [List.map_cons, PyData.depthAll, PyData.depth]; have := ih.2; omega⟩
  exact shaped_of 1 (by decide) h.1 h.2
theorem lv_ints {M : Mem} (L : List Int) : LV M (.pu (.list (L.map .int))) (pints L) := by
  have e : pints L = (L.map PyData.int).map SD.pu := by
    rw [List.map_map]
    rfl
  rw [e]
  exact .pu
theorem found_nodup (T : Tab) (n : Nat) : (foundIn T n).Nodup := by
  have h : ∀ m, ((List.range m).flatMap fun i => ((List.range n).filter (isF T n i)).map fun j => (i, j)).Nodup ∧ ∀ p ∈ (List.range m).flatMap fun i => ((List.range n).filter (isF T n i)).map fun j => (i, j), p.1 < m := by
    intro m
    induction m with
    | zero => exact ⟨List.nodup_nil, fun p hp => absurd hp List.not_mem_nil⟩
    | succ m ih =>
      rw [List.range_succ, List.flatMap_append]
      have e : ([m].flatMap fun i => ((List.range n).filter (isF T n i)).map fun j => (i, j)) = ((List.range n).filter (isF T n m)).map fun j => (m, j) := by simp
      rw [e]
      refine ⟨List.nodup_append.mpr ⟨ih.1, List.pairwise_map.mpr ((List.nodup_range.filter _).imp fun {a b} h e => h (congrArg Prod.snd e)), fun p hp q hq e2 => ?_⟩, fun p hp => ?_⟩
      · have := ih.2 p hp
        obtain ⟨j, _, e3⟩ := List.mem_map.mp hq
        rw [e2, ← e3] at this
        exact absurd this (Nat.lt_irrefl _)
      · rcases List.mem_append.mp hp with h | h
        · exact Nat.lt_succ_of_lt (ih.2 p h)
        · obtain ⟨j, _, e3⟩ := List.mem_map.mp h
          rw [← e3]
          exact Nat.lt_succ_self m
  exact (h T.length).1
/-- items next to each other -/
theorem zpp_next {α : Type} (f : α → PyData) (L : List α) {i : Nat} (hi : i < min (L.map f).length ((L.drop 1).map f).length) : ∃ (h1 : i < L.length) (h2 : i + 1 < L.length), zpp (L.map f) ((L.drop 1).map f) i = .pu (.tuple [f L[i], f L[i + 1]]) := by
  have hi1 : i < (L.map f).length := Nat.lt_of_lt_of_le hi (Nat.min_le_left _ _)
  have hi2 : i < ((L.drop 1).map f).length := Nat.lt_of_lt_of_le hi (Nat.min_le_right _ _)
  have g1 : i < L.length := by simpa using hi1
  have g2 : i < (L.drop 1).length := by simpa using hi2
  have g3 : i + 1 < L.length := by
    rw [List.length_drop] at g2
    omega
  have e2 : (L.drop 1)[i] = L[i + 1] := by
    rw [List.getElem_drop]
    congr 1
    omega
  exact ⟨g1, g3, by rw [zpp_at hi1 hi2, List.getElem_map, List.getElem_map, e2]⟩
theorem map_item {α : Type} {M : Mem} (f : α → PyData) (L : List α) {i : Nat} (h : i < L.length) : Item M (.pu (.list (L.map f))) (i : Int) (.pu (f L[i])) := .lst (atI_nat (j := i) (by rw [List.getElem?_map, List.getElem?_eq_getElem h]; rfl))
theorem map_len {α : Type} {M : Mem} (f : α → PyData) (L : List α) : Len M (.pu (.list (L.map f))) L.length := by
  have z := Len.lst (M := M) (LV.pu (ds := L.map f))
  rw [List.length_map, List.length_map] at z
  exact z
theorem some_ranks (m : Nat) (rks : List (Option Int)) : (rks.map (fun o => match o with | some r => PyData.int r | none => PyData.none)).filter (fun d => !dNon d) = (rks.filterMap id).map .int := by
  induction rks with
  | nil => rfl
  | cons o rks ih =>
    cases o with
    | none => simpa [dNon] using ih
    | some r => simpa [dNon] using ih
theorem ranks_sorted {T : Tab} {n : Nat} {ks : List Int} (t : IsTab T n) (h : ks.Pairwise (· < ·)) : (ks.filterMap fun k => rk T.length (run T n k).2).Pairwise (· ≤ ·) := by
  rw [List.pairwise_filterMap]
  exact h.imp fun {a b} hab r hr r' hr' => run_rk_mono t hab hr hr'
theorem ranks_first {T : Tab} {n : Nat} {ks : List Int} (t : IsTab T n) (up : ks.Pairwise (· < ·)) (h : ∃ a ∈ ks, ∀ v ∈ T.flatten, a < v) : ∃ L, (ks.filterMap fun k => rk T.length (run T n k).2) = 0 :: L := by
  obtain ⟨a, ha, hv⟩ := h
  match ks, up, ha with
  | k :: ks, up, ha =>
    have hk : ∀ v ∈ T.flatten, k < v := fun v h => by
      have := hv v h
      rcases List.mem_cons.mp ha with e | ha
      · omega
      · have := (List.pairwise_cons.mp up).1 a ha
        omega
    refine ⟨ks.filterMap fun k => rk T.length (run T n k).2, ?_⟩
    rw [List.filterMap_cons, run_low t hk]
    rfl
theorem ranks_last {T : Tab} {n : Nat} {ks : List Int} (t : IsTab T n) (up : ks.Pairwise (· < ·)) (h : ∃ a ∈ ks, ∀ v ∈ T.flatten, v < a) : ∃ L, (ks.filterMap fun k => rk T.length (run T n k).2) = L ++ [(T.length : Int) + (n : Int) - 1] := by
  obtain ⟨a, ha, hv⟩ := h
  obtain ⟨M, z, e⟩ := SrtO.snoc_of (l := ks) (List.length_pos_of_mem ha)
  subst e
  have hk : ∀ v ∈ T.flatten, v < z := fun v h => by
    have := hv v h
    have := pairwise_last up a ha
    omega
  refine ⟨M.filterMap fun k => rk T.length (run T n k).2, ?_⟩
  have np := t.npos
  rw [List.filterMap_append, List.filterMap_cons, run_high t hk]
  have e : rk T.length ((T.length : Int), (n : Int) - 1) = some ((T.length : Int) + (n : Int) - 1) := by
    rw [rk_down np]
    congr 1
    omega
  rw [e]
  rfl
end G

namespace G
open PySem PySem.Spec PyProof.Rows L2
section
variable {X : Cx} {ρ : List SD} {M : Mem} {Q : Kn} {QT : Bool → Mem → Prop} {QI : Nat → (Nat → SD) → Mem → Prop} {pos : Pos} {a b e tg : Expr}
theorem gmax {p : Pos} (hc : X.calm = true) (hm : X.mg "max" = none) (h : GE X ρ M a fun x M1 => ∃ i, x = .pu (.int i) ∧ GE X ρ M1 b fun y M2 => ∃ j, y = .pu (.int j) ∧ Q (.pu (.int (if j > i then j else i))) M2) (hg : Gl X "max" := by rfl) (he : starEach [a, b] X.env = [(false, eval a X.env), (false, eval b X.env)] := by rfl) (he2 : starEach [b] X.env = [(false, eval b X.env)] := by rfl) :
    GE X ρ M (.Call (.Name "max" p) [a, b] [] pos) Q :=
  gcb (call_max2 hc) hm PyProof.Rows.boot_max (acons (h.mono fun x M1 ⟨i, ex, h⟩ => acons (h.mono fun y M2 ⟨j, ey, q⟩ => anil fun B F H vs Q' W hvs s => by
    subst ex ey
    obtain ⟨v, w, rfl, hv, hw⟩ := p2 hvs
    have hv : Dt F v (.int i) := hv
    have hw : Dt F w (.int j) := hw
    cases hv
    cases hw
    exact ⟨i, j, rfl, s _ M2 _ F H q W (Same.refl F) (.int _)⟩) he2) (by rw [he, he2])) hg (he := by rw [he, he2]) (hpl := by rw [he2]; rfl)
/-- reversed(range(n)) -/
theorem irev {p p2 cpos : Pos} (hm : X.mg "reversed" = none) (hm2 : X.mg "range" = none) (h : GE X ρ M e fun x M1 => ∃ n : Nat, x = .pu (.int n) ∧ n ≤ 10000 ∧ QI n (fun i => .pu (.int ((n : Int) - 1 - (i : Int)))) M1)
    (hg : Gl X "reversed" := by rfl) (hg2 : Gl X "range" := by rfl) (he : starEach [e] X.env = [(false, eval e X.env)] := by rfl)
    (he2 : starEach [.Call (.Name "range" p2) [e] [] cpos] X.env = [(false, eval (.Call (.Name "range" p2) [e] [] cpos) X.env)] := by rfl) : GI X ρ M tg (.Call (.Name "reversed" p) [.Call (.Name "range" p2) [e] [] cpos] [] pos) QI := .mk fun B F H σ R' W S s => by
  refine wI_of (pi_revR hg hm (prg_1 hg2 hm2 pE he) he2) (h B F H σ _ W S fun x M1 v F1 H1 hx W1 s1 vx => ?_)
  obtain ⟨n, rfl, hn, q⟩ := hx
  have vx : Dt F1 v (.int n) := vx
  cases vx
  refine ⟨n, rfl, by omega, by omega, by omega, by omega, ?_⟩
  have e1 : ((n : Int) - 0).toNat = n := by omega
  rw [e1]
  refine s _ _ M1 _ F1 H1 q W1 s1 ?_
  have z := git_rngC (F := F1) (lo := (0 : Int) + ((n : Nat) : Int) - 1) (c := -1) (n := n)
  have e2 : (fun i : Nat => SD.pu (.int ((0 : Int) + ((n : Nat) : Int) - 1 + (i : Int) * (-1)))) = fun i : Nat => SD.pu (.int ((n : Int) - 1 - (i : Int))) := by
    funext i
    congr 2
    omega
  rw [e2] at z
  exact z
/-! ### xs * n -/
def repL {α : Type} (n : Nat) (xs : List α) : List α := (List.replicate n xs).flatten
theorem repL_len {α : Type} (n : Nat) (xs : List α) : (repL n xs).length = n * xs.length := by
  unfold repL
  induction n with
  | zero => simp
  | succ n ih => rw [List.replicate_succ, List.flatten_cons, List.length_append, ih, Nat.succ_mul, Nat.add_comm]
theorem vals_rep {xs : List V} {us : List Value} (r : Vals xs us) : ∀ n, Vals (repL n xs) (repL n us)
  | 0 => .nil
  | n + 1 => by
    unfold repL
    rw [List.replicate_succ, List.replicate_succ, List.flatten_cons, List.flatten_cons]
    exact r.append (vals_rep r n)
theorem paired_rep {F : Hp} {vs : List V} {xs : List SD} (r : Paired (VOk F) vs xs) : ∀ n, Paired (VOk F) (repL n vs) (repL n xs)
  | 0 => .nil
  | n + 1 => by
    unfold repL
    rw [List.replicate_succ, List.replicate_succ, List.flatten_cons, List.flatten_cons]
    exact paired_app r (paired_rep r n)
theorem mul_fits {m : Nat} {x : Int} (h0 : 0 ≤ x) (h9 : x ≤ 100000) (hm : m * x.toNat ≤ 100000) : ¬ (!Builtin.List.listFitsIndex x) = true ∧ ¬ m * x.toNat > (2 ^ 63 - 1) / 8 ∧ ¬ Builtin.List.listTooLong (m * x.toNat) = true :=
  ⟨by simp [Builtin.List.listFitsIndex]; omega, by omega, by simp [Builtin.List.listTooLong, sizeLine]; omega⟩
theorem op_mul_lx : OpR X (binaryOp .Mult) (fun x y H Q => ∃ a xs k, x = V.ref a ∧ y = V.int k ∧ SqL X.K H a xs ∧ 0 ≤ k ∧ k ≤ 100000 ∧ xs.length * k.toNat ≤ 100000 ∧ ∀ p, H p = none → Q (.ref p) (upd H p (.lst (repL k.toNat xs)))) := by
  intro pins s σ H x y v u Q I rx ry h
  obtain ⟨a, xs, k, rfl, rfl, hs, hk0, hk9, hk1, q⟩ := h
  obtain rfl : v = Value.ref a := rx
  obtain ⟨t, rfl⟩ := ry
  obtain ⟨its, rv, ⟨⟨cls, dd, data, sl⟩, n, ho, hc, hdn, hd⟩, hlen⟩ := I.list hs
  have hc1 : cls = Value.type "list" := hc
  have hd1 : data = Data.seq its.toArray n := hd
  subst hc1 hd1
  have hz : its.length = xs.length := rv.length.symm
  have hm : its.toArray.size * k.toNat ≤ 100000 := by
    rw [List.size_toArray, hz]
    exact hk1
  obtain ⟨hf, hf1, hf2⟩ := mul_fits hk0 hk9 hm
  have X1 := lm_list_mul_any a its.toArray n dd sl k t hf hf1 hf2
  refine wpAny_binaryOp_repeat_ref (T := "list") (U := "int") (by decide) ⟨_, ho, rfl⟩ (fun s' => typeIs_int s' _ _) noFill_list_mul F.fills_int_mul F.slot_int_rmul repeat_list F.slot_int_index.lookup
    (call_meets F.slot_int_rmul (typeIs_int s _ _) F.entry_int_rmul (F.args_int_rmul_2 _ _) (lm_int_rmul_list_any k t a its.toArray n dd sl)
      ⟨ho, rfl, ⟨_, ho, rfl⟩, call_meets F.slot_list_mul ⟨_, ho, rfl⟩ F.entry_list_mul (F.args_list_mul_2 _ _) X1 ⟨ho, ?_⟩⟩)
  rw [listMul_foldl_if]
  have h9 : k.toNat * xs.length ≤ sizeLine := by
    rw [Nat.mul_comm]
    exact Nat.le_trans hk1 (by decide)
  refine ⟨.ref s.heap.objs.size, upd H s.heap.objs.size (.lst (repL k.toNat xs)), I.laid (t' := s.toks) (fun b o e => Heap.get?_push_of_some _ e) (Nat.le_refl _) ⟨?_, _, 0, vals_rep rv k.toNat, Heap.get?_push_size _ rfl⟩, rfl, q _ (I.hok.fresh (Nat.le_refl _))⟩
  exact Nat.le_trans (Nat.le_of_eq (repL_len k.toNat xs)) h9
theorem op_mul_li : OpR X (binaryOp .Mult) (fun x y H Q => ∃ a xs, ∃ k : Nat, x = V.ref a ∧ y = V.int k ∧ SqL X.K H a xs ∧ xs.length * k ≤ 100000 ∧ k ≤ 100000 ∧ ∀ p, H p = none → Q (.ref p) (upd H p (.lst (repL k xs)))) := by
  intro pins s σ H x y v u Q I rx ry h
  obtain ⟨a, xs, k, rfl, rfl, hs, hk1, hk2, q⟩ := h
  exact op_mul_lx pins s σ H _ _ v u Q I rx ry ⟨a, xs, k, rfl, rfl, hs, by omega, by omega, by rw [Int.toNat_natCast]; exact hk1, by rw [Int.toNat_natCast]; exact q⟩
theorem gmulL (h : GE X ρ M a fun x M1 => GE X ρ M1 b fun y M2 => ∃ xs, ∃ k : Nat, LV M2 x xs ∧ y = .pu (.int k) ∧ xs.length * k ≤ 100000 ∧ k ≤ 100000 ∧ ∀ l, Q (.rf (.ref l)) ((l, .lst (repL k xs)) :: M2)) : GE X ρ M (.BinOp a .Mult b pos) Q := ge2 op_mul_li (h.mono fun x M1 h => h.mono fun y M2 ⟨xs, k, l1, ey, h1, h2, q⟩ => fun B F H v w Q' W hv hw s => by
  subst ey
  have hw : Dt F w (.int k) := hw
  cases hw
  obtain ⟨p, vs, rfl, hp, pr⟩ := l1.at W hv
  exact ⟨p, vs, k, rfl, rfl, .of hp, by rw [Paired.length pr]; exact h1, h2, fun q' hq => s _ _ _ F _ (q q') (W.newl hq (paired_rep pr k)) (Same.refl F) rfl⟩)
/-- list(range(a, b)) -/
theorem rgV_ints2 (a b : Int) : rgV a b = ((List.range (b - a).toNat).map fun i : Nat => a + (i : Int)).map V.int := by
  unfold rgV
  rw [List.map_map]
  rfl
theorem glistr2 {p p2 cpos : Pos} (hc : X.calm = true) (hm : X.mg "list" = none) (hm2 : X.mg "range" = none)
    (h : GE X ρ M a fun x M1 => ∃ i, x = .pu (.int i) ∧ GE X ρ M1 b fun y M2 => ∃ j, y = .pu (.int j) ∧ (0 ≤ i ∧ i ≤ 10000 ∧ 0 ≤ j ∧ j ≤ 10000) ∧ ∀ l, Q (.rf (.ref l)) ((l, .lst (pints ((List.range (j - i).toNat).map fun k : Nat => i + (k : Int)))) :: M2))
    (hg : Gl X "list" := by rfl) (hg2 : Gl X "range" := by rfl) (na : starEach [a, b] X.env = (false, eval a X.env) :: starEach [b] X.env := by rfl)
    (nb : starEach [b] X.env = (false, eval b X.env) :: starEach [] X.env := by rfl) (hp : (backTo cpos (starEach [b] X.env)).any (·.1) = false := by rfl)
    (he2 : starEach [.Call (.Name "range" p2) [a, b] [] cpos] X.env = [(false, eval (.Call (.Name "range" p2) [a, b] [] cpos) X.env)] := by rfl) : GE X ρ M (.Call (.Name "list" p) [.Call (.Name "range" p2) [a, b] [] cpos] [] pos) Q := .mk fun B F H σ Q' W S s => by
  refine wE_of (pe_listRg hc hg hm (prg_2 hg2 hm2 pE pE na nb hp) he2) (h B F H σ _ W S fun x M1 v F1 H1 hx W1 s1 vx => ?_)
  obtain ⟨i, rfl, hx⟩ := hx
  refine hx B F1 H1 σ _ W1 (pMono s1 S) fun y M2 w F2 H2 hy W2 s2 wy => ?_
  obtain ⟨j, rfl, hn, q⟩ := hy
  have vx : Dt F2 v (.int i) := vx.mono s2
  have wy : Dt F2 w (.int j) := wy
  cases vx
  cases wy
  refine ⟨i, j, rfl, rfl, .of_le (by omega) (by omega) (by omega) (by omega), fun d hd => ?_⟩
  rw [rgV_ints2]
  exact s _ _ _ F2 _ (q d) (W2.newl hd (of_ints _)) (s1.trans s2) rfl
end
/-! ### a list of lists is frozen as a whole -/
theorem Wd.retype {B : Bs} {F H : Hp} {M : Mem} {p : Addr} {xs ys : List SD} (W : Wd B F H ((p, .lst xs) :: M)) (h : ∀ vs, Paired (VOk F) vs xs → Paired (VOk F) vs ys) : Wd B F H ((p, .lst ys) :: M) where
  fh := W.fh
  f0 := W.f0
  fnew := W.fnew
  keep := W.keep
  dom := W.dom
  mem := fun q hq => by
    rcases List.mem_cons.mp hq with e | hq
    · subst e
      obtain ⟨f1, vs, f2, f3⟩ := W.mem _ List.mem_cons_self
      exact ⟨f1, vs, f2, h vs f3⟩
    · exact W.mem q (List.mem_cons_of_mem _ hq)
  nd := W.nd
  new := fun q hq => by
    rcases List.mem_cons.mp hq with e | hq
    · subst e
      exact W.new (p, .lst xs) List.mem_cons_self
    · exact W.new q (List.mem_cons_of_mem _ hq)
abbrev rowM (d : Addr × List Int) : Addr × MO := (d.1, .lst (pints d.2))
abbrev rowR (d : Addr × List Int) : SD := .rf (.ref d.1)
theorem Wd.deep {B : Bs} {H : Hp} {M : Mem} {l : Addr} : ∀ {rows : List (Addr × List Int)} {F : Hp} {pre : List SD}, Wd B F H ((l, .lst (pre ++ rows.map rowR)) :: (rows.map rowM ++ M)) → ∃ F', Same F F' ∧ Wd B F' H ((l, .lst (pre ++ rows.map fun d => .pu (rowD d.2))) :: M)
  | [], F, pre, W => ⟨F, Same.refl F, W⟩
  | d :: rows, F, pre, W => by
    have W1 : Wd B F H ((d.1, .lst ((d.2.map PyData.int).map .pu)) :: (l, .lst (pre ++ (d :: rows).map rowR)) :: (rows.map rowM ++ M)) := by
      have W0 := W.perm (List.Perm.swap (d.1, MO.lst (pints d.2)) (l, MO.lst (pre ++ (d :: rows).map rowR)) (rows.map rowM ++ M))
      have e : pints d.2 = (d.2.map PyData.int).map SD.pu := by
        rw [List.map_map]
        rfl
      rw [e] at W0
      exact W0
    obtain ⟨F1, s1, W2, dd⟩ := W1.freeze
    have W3 : Wd B F1 H ((l, .lst ((pre ++ [.pu (rowD d.2)]) ++ rows.map rowR)) :: (rows.map rowM ++ M)) := W2.retype fun vs h => by
      have h : Paired (VOk F1) vs (pre ++ (rowR d :: rows.map rowR)) := h
      have key : ∀ {pre : List SD} {vs : List V}, Paired (VOk F1) vs (pre ++ (rowR d :: rows.map rowR)) → Paired (VOk F1) vs ((pre ++ [.pu (rowD d.2)]) ++ rows.map rowR) := by
        intro pre
        induction pre with
        | nil =>
          intro vs h
          cases h with
          | cons h1 h2 =>
            have h1 : _ = V.ref d.1 := h1
            subst h1
            exact .cons dd h2
        | cons x pre ih =>
          intro vs h
          cases h with
          | cons h1 h2 => exact .cons h1 (ih h2)
      exact key h
    obtain ⟨F2, s2, W4⟩ := Wd.deep W3
    refine ⟨F2, s1.trans s2, ?_⟩
    rw [List.append_assoc] at W4
    exact W4
/-- a new list of lists is frozen, all others are forgotten -/
theorem gzd {X : Cx} {ρ : List SD} {M : Mem} {Q : Kn} {e : Expr} (h : GE X ρ M e fun r M' => ∃ (l : Addr) (rows : List (Addr × List Int)) (Mz : Mem), r = .rf (.ref l) ∧ M'.Perm ((l, .lst (rows.map rowR)) :: (rows.map rowM ++ Mz)) ∧ Q (.pu (tab (rows.map (·.2)))) []) : GE X ρ M e Q := .mk fun B F H σ Q' W S s => h B F H σ Q' W S fun r M' v F1 H1 hx W1 s1 vx => by
  obtain ⟨l, rows, Mz, rfl, pm, q⟩ := hx
  obtain ⟨F2, s2, W2⟩ := Wd.deep (pre := []) (W1.perm pm)
  have e : ([] ++ rows.map fun d => SD.pu (rowD d.2)) = ((rows.map (·.2)).map rowD).map SD.pu := by
    rw [List.map_map, List.map_map]
    rfl
  rw [e] at W2
  obtain ⟨F3, s3, W3, d⟩ := W2.freeze
  have vx : v = .ref l := vx
  subst vx
  exact s _ [] _ F3 H1 q (W3.sub (List.nil_sublist _)) ((s1.trans s2).trans s3) d
end G

namespace G
/-! ### levels and bounds -/
def midH (v : Int) : Option Int → Int
  | none => v
  | some h => if h < v then h else v
def midL (v : Int) : Option Int → Int
  | none => v
  | some l => if l > v then l else v
def mid (v : Int) (lo hi : Option Int) : Int := midL (midH v hi) lo
def levC (T : Tab) (n : Nat) : Nat → Nat → Int
  | 0, 0 => mid (val T 0 (n - 1)) none none
  | 0, c + 1 => mid (val T 0 (n - 1 - (c + 1))) none (some (levC T n 0 c))
  | i + 1, 0 => mid (val T (i + 1) (n - 1)) (some (levC T n i 0)) none
  | i + 1, c + 1 => mid (val T (i + 1) (n - 1 - (c + 1))) (some (levC T n i (c + 1))) (some (levC T n (i + 1) c))
termination_by i c => (i, c)
def lev (T : Tab) (n i j : Nat) : Int := levC T n i (n - 1 - j)
def loB (T : Tab) (n i j : Nat) : Option Int := if 0 < i then some (lev T n (i - 1) j) else none
def hiB (T : Tab) (n i j : Nat) : Option Int := if j + 1 < n then some (lev T n i (j + 1)) else none
theorem lev_eq (T : Tab) {n i j : Nat} (hj : j < n) : lev T n i j = mid (val T i j) (loB T n i j) (hiB T n i j) := by
  have e : n - 1 - (n - 1 - j) = j := by omega
  unfold lev loB hiB
  cases i with
  | zero =>
    cases hc : n - 1 - j with
    | zero =>
      rw [levC, if_neg (by omega), if_neg (by omega), show n - 1 = j by omega]
    | succ c =>
      rw [levC, if_neg (by omega), if_pos (by omega), show n - 1 - (c + 1) = j by omega]
      unfold lev
      rw [show n - 1 - (j + 1) = c by omega]
  | succ i =>
    cases hc : n - 1 - j with
    | zero =>
      rw [levC, if_pos (by omega), if_neg (by omega), show n - 1 = j by omega]
      unfold lev
      rw [show i + 1 - 1 = i by omega, show n - 1 - j = 0 by omega]
    | succ c =>
      rw [levC, if_pos (by omega), if_pos (by omega), show n - 1 - (c + 1) = j by omega]
      unfold lev
      rw [show i + 1 - 1 = i by omega, hc, show n - 1 - (j + 1) = c by omega]
theorem lev_down (T : Tab) {n i j : Nat} (hj : j < n) : lev T n i j ≤ lev T n (i + 1) j := by
  rw [lev_eq T (i := i + 1) hj]
  unfold mid loB
  rw [if_pos (by omega), show i + 1 - 1 = i by omega]
  generalize midH _ _ = w
  unfold midL
  dsimp only
  split <;> omega
theorem hi_some (T : Tab) {n i j : Nat} (hj : j + 1 < n) : hiB T n i j = some (lev T n i (j + 1)) := by
  unfold hiB
  rw [if_pos hj]
theorem lo_zero (T : Tab) (n j : Nat) : loB T n 0 j = none := by
  unfold loB
  rw [if_neg (by omega)]
theorem lo_succ (T : Tab) (n i j : Nat) : loB T n (i + 1) j = some (lev T n i j) := by
  unfold loB
  rw [if_pos (by omega), show i + 1 - 1 = i by omega]
theorem lev_right (T : Tab) {n j : Nat} (hj : j + 1 < n) : ∀ i, lev T n i j ≤ lev T n i (j + 1)
  | 0 => by
    rw [lev_eq T (i := 0) (j := j) (by omega), hi_some T hj, lo_zero]
    unfold mid midL midH
    dsimp only
    split <;> omega
  | i + 1 => by
    have h1 := lev_right T hj i
    have h2 := lev_down T (i := i) hj
    rw [lev_eq T (i := i + 1) (j := j) (by omega), hi_some T hj, lo_succ]
    unfold mid midL midH
    dsimp only
    split <;> split <;> omega
theorem lev_mem {T : Tab} {n : Nat} (t : IsTab T n) : ∀ (s i j : Nat), i + (n - 1 - j) ≤ s → i < T.length → j < n → lev T n i j ∈ T.flatten
  | s, i, j, hs, hi, hj => by
    have hv := val_in t hi hj
    have h1 : ∀ a, loB T n i j = some a → a ∈ T.flatten := fun a ha => by
      unfold loB at ha
      split at ha
      · next h =>
        injection ha with ha
        rw [← ha]
        match s with
        | 0 => omega
        | s + 1 => exact lev_mem t s (i - 1) j (by omega) (by omega) hj
      · cases ha
    have h2 : ∀ a, hiB T n i j = some a → a ∈ T.flatten := fun a ha => by
      unfold hiB at ha
      split at ha
      · next h =>
        injection ha with ha
        rw [← ha]
        match s with
        | 0 => omega
        | s + 1 => exact lev_mem t s i (j + 1) (by omega) hi h
      · cases ha
    rw [lev_eq T hj]
    generalize loB T n i j = lo at h1
    generalize hiB T n i j = hi at h2
    have h3 : midH (val T i j) hi ∈ T.flatten := by
      cases hi with
      | none => exact hv
      | some h =>
        unfold midH
        dsimp only
        split
        · exact h2 h rfl
        · exact hv
    unfold mid
    cases lo with
    | none => exact h3
    | some l =>
      unfold midL
      dsimp only
      split
      · exact h1 l rfl
      · exact h3
termination_by s => s
/-- a key between the bounds of a place -/
structure Btw (T : Tab) (n : Nat) (k : Int) (i j : Nat) : Prop where
  lo : ∀ a, loB T n i j = some a → a < k
  hi : ∀ a, hiB T n i j = some a → k < a
theorem Btw.lt {T : Tab} {n i j : Nat} {k : Int} (b : Btw T n k i j) (hj : j < n) : lev T n i j < k ↔ val T i j < k := by
  obtain ⟨b1, b2⟩ := b
  rw [lev_eq T hj]
  generalize loB T n i j = lo at b1
  generalize hiB T n i j = hi at b2
  unfold mid
  cases lo with
  | none =>
    cases hi with
    | none => exact Iff.rfl
    | some h =>
      have := b2 h rfl
      unfold midL midH
      dsimp only
      split <;> omega
  | some l =>
    have := b1 l rfl
    cases hi with
    | none =>
      unfold midL midH
      dsimp only
      split <;> omega
    | some h =>
      have := b2 h rfl
      unfold midL midH
      dsimp only
      split <;> split <;> omega
theorem Btw.gt {T : Tab} {n i j : Nat} {k : Int} (b : Btw T n k i j) (hj : j < n) : k < lev T n i j ↔ k < val T i j := by
  obtain ⟨b1, b2⟩ := b
  rw [lev_eq T hj]
  generalize loB T n i j = lo at b1
  generalize hiB T n i j = hi at b2
  unfold mid
  cases lo with
  | none =>
    cases hi with
    | none => exact Iff.rfl
    | some h =>
      have := b2 h rfl
      unfold midL midH
      dsimp only
      split <;> omega
  | some l =>
    have := b1 l rfl
    cases hi with
    | none =>
      unfold midL midH
      dsimp only
      split <;> omega
    | some h =>
      have := b2 h rfl
      unfold midL midH
      dsimp only
      split <;> split <;> omega
theorem Btw.down {T : Tab} {n i j : Nat} {k : Int} (b : Btw T n k i j) (hj : j < n) (hv : val T i j < k) : Btw T n k (i + 1) j := by
  have h := (b.lt hj).mpr hv
  refine ⟨fun a ha => ?_, fun a ha => ?_⟩
  · unfold loB at ha
    rw [if_pos (by omega), show i + 1 - 1 = i by omega] at ha
    injection ha with ha
    omega
  · unfold hiB at ha
    split at ha
    · next hj2 =>
      injection ha with ha
      have h1 := b.hi (lev T n i (j + 1)) (by unfold hiB; rw [if_pos hj2])
      have h2 := lev_down T (i := i) hj2
      omega
    · cases ha
theorem Btw.left {T : Tab} {n i j : Nat} {k : Int} (b : Btw T n k i (j + 1)) (hj : j + 1 < n) (hv : k < val T i (j + 1)) : Btw T n k i j := by
  have h := (b.gt hj).mpr hv
  refine ⟨fun a ha => ?_, fun a ha => ?_⟩
  · unfold loB at ha
    split at ha
    · next hi =>
      injection ha with ha
      have h1 := b.lo (lev T n (i - 1) (j + 1)) (by unfold loB; rw [if_pos hi])
      have h2 := lev_right T hj (i - 1)
      omega
    · cases ha
  · unfold hiB at ha
    rw [if_pos hj] at ha
    injection ha with ha
    omega
theorem go_btw {T : Tab} {n : Nat} {k : Int} : ∀ (f i c : Nat), c ≤ n → (i < T.length → 0 < c → Btw T n k i (c - 1)) → ∀ p ∈ (go T k f i c).1, Btw T n k p.1 p.2
  | 0, i, c, hc, h, p, hp => by simp [go] at hp
  | f + 1, i, c, hc, h, p, hp => by
    by_cases h1 : i < T.length ∧ 0 < c
    · obtain ⟨h1, h2⟩ := h1
      have b := h h1 h2
      rcases Int.lt_trichotomy (val T i (c - 1)) k with hv | hv | hv
      · rw [go_lt h1 h2 hv] at hp
        rcases List.mem_cons.mp hp with e | hp
        · rw [e]; exact b
        · exact go_btw f (i + 1) c hc (fun _ _ => b.down (by omega) hv) p hp
      · rw [go_eq h1 h2 hv] at hp
        rw [List.mem_singleton.mp hp]
        exact b
      · rw [go_gt h1 h2 hv] at hp
        rcases List.mem_cons.mp hp with e | hp
        · rw [e]; exact b
        · refine go_btw f i (c - 1) (by omega) (fun _ h3 => ?_) p hp
          have e : c - 1 = (c - 1 - 1) + 1 := by omega
          rw [e] at b hv
          exact b.left (by omega) hv
    · rw [go_out h1] at hp
      exact absurd hp List.not_mem_nil
theorem run_btw {T : Tab} {n : Nat} {k : Int} {i j : Nat} (t : IsTab T n) (h : (i, j) ∈ (run T n k).1) : Btw T n k i j := by
  have hn := t.npos
  refine go_btw _ 0 n (Nat.le_refl _) (fun _ _ => ⟨fun a ha => ?_, fun a ha => ?_⟩) (i, j) h
  · unfold loB at ha
    rw [if_neg (by omega)] at ha
    cases ha
  · unfold hiB at ha
    rw [if_neg (by omega)] at ha
    cases ha
theorem go_in {T : Tab} {k : Int} : ∀ (f i c : Nat), ∀ p ∈ (go T k f i c).1, i ≤ p.1 ∧ p.1 < T.length ∧ p.2 < c
  | 0, i, c, p, hp => by simp [go] at hp
  | f + 1, i, c, p, hp => by
    by_cases h1 : i < T.length ∧ 0 < c
    · obtain ⟨h1, h2⟩ := h1
      have own : p = (i, c - 1) → i ≤ p.1 ∧ p.1 < T.length ∧ p.2 < c := fun e => by
        rw [e]
        exact ⟨Nat.le_refl _, h1, by show c - 1 < c; omega⟩
      rcases Int.lt_trichotomy (val T i (c - 1)) k with hv | hv | hv
      · rw [go_lt h1 h2 hv] at hp
        rcases List.mem_cons.mp hp with e | hp
        · exact own e
        · have := go_in f (i + 1) c p hp
          omega
      · rw [go_eq h1 h2 hv] at hp
        exact own (List.mem_singleton.mp hp)
      · rw [go_gt h1 h2 hv] at hp
        rcases List.mem_cons.mp hp with e | hp
        · exact own e
        · have := go_in f i (c - 1) p hp
          omega
    · rw [go_out h1] at hp
      exact absurd hp List.not_mem_nil
theorem go_down {T : Tab} {k : Int} {x y : Nat} (hv : val T x y < k) (hx : x + 1 < T.length) : ∀ (f i c : Nat), (T.length - i) + c ≤ f → (x, y) ∈ (go T k f i c).1 → (x + 1, y) ∈ (go T k f i c).1
  | 0, i, c, hf, hp => by simp [go] at hp
  | f + 1, i, c, hf, hp => by
    by_cases h1 : i < T.length ∧ 0 < c
    · obtain ⟨h1, h2⟩ := h1
      by_cases e : (x, y) = (i, c - 1)
      · have e1 : x = i := congrArg Prod.fst e
        have e2 : y = c - 1 := congrArg Prod.snd e
        rw [e1, e2] at hv ⊢
        rw [go_lt h1 h2 hv]
        obtain ⟨f', rfl⟩ : ∃ f', f = f' + 1 := ⟨f - 1, by omega⟩
        obtain ⟨L, eL⟩ := go_head (T := T) (k := k) (f := f') (i := i + 1) (by omega) h2
        rw [eL]
        exact List.mem_cons_of_mem _ List.mem_cons_self
      · rcases Int.lt_trichotomy (val T i (c - 1)) k with hw | hw | hw
        · rw [go_lt h1 h2 hw] at hp ⊢
          exact List.mem_cons_of_mem _ (go_down hv hx f (i + 1) c (by omega) (by rcases List.mem_cons.mp hp with z | z; exact absurd z e; exact z))
        · rw [go_eq h1 h2 hw] at hp
          exact absurd (List.mem_singleton.mp hp) e
        · rw [go_gt h1 h2 hw] at hp ⊢
          exact List.mem_cons_of_mem _ (go_down hv hx f i (c - 1) (by omega) (by rcases List.mem_cons.mp hp with z | z; exact absurd z e; exact z))
    · rw [go_out h1] at hp
      exact absurd hp List.not_mem_nil
theorem go_left {T : Tab} {k : Int} {x y : Nat} (hv : k < val T x (y + 1)) (hx : x < T.length) : ∀ (f i c : Nat), (T.length - i) + c ≤ f → (x, y + 1) ∈ (go T k f i c).1 → (x, y) ∈ (go T k f i c).1
  | 0, i, c, hf, hp => by simp [go] at hp
  | f + 1, i, c, hf, hp => by
    by_cases h1 : i < T.length ∧ 0 < c
    · obtain ⟨h1, h2⟩ := h1
      by_cases e : (x, y + 1) = (i, c - 1)
      · have e1 : x = i := congrArg Prod.fst e
        have e2 : y + 1 = c - 1 := congrArg Prod.snd e
        rw [e1, e2] at hv
        rw [e1, go_gt h1 h2 hv]
        obtain ⟨f', rfl⟩ : ∃ f', f = f' + 1 := ⟨f - 1, by omega⟩
        obtain ⟨L, eL⟩ := go_head (T := T) (k := k) (f := f') (i := i) (c := c - 1) h1 (by omega)
        rw [eL]
        have e3 : c - 1 - 1 = y := by omega
        rw [e3]
        exact List.mem_cons_of_mem _ List.mem_cons_self
      · rcases Int.lt_trichotomy (val T i (c - 1)) k with hw | hw | hw
        · rw [go_lt h1 h2 hw] at hp ⊢
          exact List.mem_cons_of_mem _ (go_left hv hx f (i + 1) c (by omega) (by rcases List.mem_cons.mp hp with z | z; exact absurd z e; exact z))
        · rw [go_eq h1 h2 hw] at hp
          exact absurd (List.mem_singleton.mp hp) e
        · rw [go_gt h1 h2 hw] at hp ⊢
          exact List.mem_cons_of_mem _ (go_left hv hx f i (c - 1) (by omega) (by rcases List.mem_cons.mp hp with z | z; exact absurd z e; exact z))
    · rw [go_out h1] at hp
      exact absurd hp List.not_mem_nil
theorem btw_run {T : Tab} {n : Nat} {k : Int} (t : IsTab T n) (hk : k ∉ T.flatten) : ∀ (s i j : Nat), i + (n - 1 - j) = s → i < T.length → j < n → Btw T n k i j → (i, j) ∈ (run T n k).1
  | 0, i, j, hs, hi, hj, b => by
    obtain ⟨L, e⟩ := run_first (k := k) t
    rw [e, show i = 0 by omega, show j = n - 1 by omega]
    exact List.mem_cons_self
  | s + 1, i, j, hs, hi, hj, b => by
    have down : 0 < i → Btw T n k (i - 1) j → (i, j) ∈ (run T n k).1 := fun h0 b' => by
      have r := btw_run t hk s (i - 1) j (by omega) (by omega) hj b'
      have h1 := b.lo (lev T n (i - 1) j) (by unfold loB; rw [if_pos h0])
      have z := go_down ((b'.lt hj).mp h1) (by omega) _ 0 n (by omega) r
      rw [show i - 1 + 1 = i by omega] at z
      exact z
    have left : j + 1 < n → Btw T n k i (j + 1) → (i, j) ∈ (run T n k).1 := fun h0 b' => by
      have r := btw_run t hk s i (j + 1) (by omega) hi h0 b'
      have h1 := b.hi (lev T n i (j + 1)) (by unfold hiB; rw [if_pos h0])
      exact go_left ((b'.gt h0).mp h1) hi _ 0 n (by omega) r
    have hiOk : ∀ a, j + 1 < n → hiB T n i (j + 1) = some a → k < a := fun a h0 ha => by
      unfold hiB at ha
      split at ha
      · next h2 =>
        injection ha with ha
        have h1 := b.hi (lev T n i (j + 1)) (by unfold hiB; rw [if_pos h0])
        have := lev_right T h2 i
        omega
      · cases ha
    have loOk : ∀ a, 0 < i → loB T n (i - 1) j = some a → a < k := fun a h0 ha => by
      unfold loB at ha
      split at ha
      · next h2 =>
        injection ha with ha
        have h1 := b.lo (lev T n (i - 1) j) (by unfold loB; rw [if_pos h0])
        have := lev_down T (i := i - 1 - 1) hj
        rw [show i - 1 - 1 + 1 = i - 1 by omega] at this
        omega
      · cases ha
    by_cases h0 : 0 < i
    · by_cases h1 : j + 1 < n
      · have hm := lev_mem t _ (i - 1) (j + 1) (Nat.le_refl _) (by omega) h1
        have ne : k ≠ lev T n (i - 1) (j + 1) := fun e => hk (e ▸ hm)
        by_cases hc : k < lev T n (i - 1) (j + 1)
        · refine down h0 ⟨fun a ha => loOk a h0 ha, fun a ha => ?_⟩
          unfold hiB at ha
          rw [if_pos h1] at ha
          injection ha with ha
          omega
        · refine left h1 ⟨fun a ha => ?_, fun a ha => hiOk a h1 ha⟩
          unfold loB at ha
          rw [if_pos h0] at ha
          injection ha with ha
          omega
      · refine down h0 ⟨fun a ha => loOk a h0 ha, fun a ha => ?_⟩
        unfold hiB at ha
        rw [if_neg h1] at ha
        cases ha
    · have h1 : j + 1 < n := by omega
      refine left h1 ⟨fun a ha => ?_, fun a ha => hiOk a h1 ha⟩
      unfold loB at ha
      rw [if_neg h0] at ha
      cases ha
/-! ### doubled values -/
def dbl (T : Tab) : Tab := T.map fun r => r.map (2 * ·)
theorem dbl_is {T : Tab} {n : Nat} (t : IsTab T n) : IsTab (dbl T) n := ⟨by simp [dbl, t.pos], by simp [dbl, t.le], t.npos, t.nle, fun r hr => by
  obtain ⟨r', hr', e⟩ := List.mem_map.mp hr
  rw [← e, List.length_map]
  exact t.rows r' hr'⟩
theorem dbl_len (T : Tab) : (dbl T).length = T.length := List.length_map ..
theorem val_dbl (T : Tab) (i j : Nat) : val (dbl T) i j = 2 * val T i j := by
  unfold val dbl
  simp only [List.getD_eq_getElem?_getD, List.getElem?_map]
  cases h : T[i]? with
  | none => simp
  | some r =>
    simp only [Option.map_some, Option.getD_some, List.getElem?_map]
    cases h2 : r[j]? with
    | none => simp
    | some v => simp
theorem mid_dbl (v : Int) (lo hi : Option Int) : mid (2 * v) (lo.map (2 * ·)) (hi.map (2 * ·)) = 2 * mid v lo hi := by
  unfold mid
  cases lo with
  | none =>
    cases hi with
    | none => rfl
    | some h =>
      simp only [Option.map_some, Option.map_none]
      unfold midL midH
      dsimp only
      split <;> split <;> omega
  | some l =>
    cases hi with
    | none =>
      simp only [Option.map_some, Option.map_none]
      unfold midL midH
      dsimp only
      split <;> split <;> omega
    | some h =>
      simp only [Option.map_some]
      unfold midL midH
      dsimp only
      split <;> split <;> split <;> split <;> omega
theorem lev_dbl (T : Tab) (n : Nat) : ∀ (i c : Nat), levC (dbl T) n i c = 2 * levC T n i c
  | 0, 0 => by
    rw [levC, levC, val_dbl]
    exact mid_dbl _ none none
  | 0, c + 1 => by
    rw [levC, levC, val_dbl, lev_dbl T n 0 c]
    exact mid_dbl _ none (some _)
  | i + 1, 0 => by
    rw [levC, levC, val_dbl, lev_dbl T n i 0]
    exact mid_dbl _ (some _) none
  | i + 1, c + 1 => by
    rw [levC, levC, val_dbl, lev_dbl T n i (c + 1), lev_dbl T n (i + 1) c]
    exact mid_dbl _ (some _) (some _)
termination_by i c => (i, c)
theorem lo_dbl (T : Tab) (n i j : Nat) : loB (dbl T) n i j = (loB T n i j).map (2 * ·) := by
  unfold loB lev
  split
  · rw [lev_dbl]; rfl
  · rfl
theorem hi_dbl (T : Tab) (n i j : Nat) : hiB (dbl T) n i j = (hiB T n i j).map (2 * ·) := by
  unfold hiB lev
  split
  · rw [lev_dbl]; rfl
  · rfl
theorem dbl_even {T : Tab} {v : Int} (h : v ∈ (dbl T).flatten) : ∃ u ∈ T.flatten, v = 2 * u := by
  obtain ⟨r, hr, hv⟩ := List.mem_flatten.mp h
  obtain ⟨r', hr', e⟩ := List.mem_map.mp hr
  rw [← e] at hv
  obtain ⟨u, hu, e2⟩ := List.mem_map.mp hv
  exact ⟨u, List.mem_flatten.mpr ⟨r', hr', hu⟩, e2.symm⟩
/-- the key of a gap, in the table of doubled values -/
def gk (V : List Int) (g : Nat) : Int := if g = 0 then 2 * V.getD 0 0 - 1 else 2 * V.getD (g - 1) 0 + 1
theorem gk_odd (V : List Int) (g : Nat) : ∃ z, gk V g = 2 * z + 1 := by
  unfold gk
  split
  · exact ⟨V.getD 0 0 - 1, by omega⟩
  · exact ⟨V.getD (g - 1) 0, rfl⟩
theorem gk_gt {V : List Int} (up : V.Pairwise (· < ·)) {a g : Nat} (ha : a < V.length) (hg : g ≤ V.length) : 2 * V[a] < gk V g ↔ a + 1 ≤ g := by
  have mono : ∀ {i j : Nat} (h : i < j) (hj : j < V.length), V[i]'(by omega) < V[j] := fun h hj => List.pairwise_iff_getElem.mp up _ _ _ _ h
  unfold gk
  split
  · next h =>
    have h0 : 0 < V.length := by omega
    rw [List.getD_eq_getElem?_getD, List.getElem?_eq_getElem h0, Option.getD_some]
    by_cases e : a = 0
    · subst e
      omega
    · have := mono (i := 0) (j := a) (by omega) ha
      omega
  · next h =>
    have h0 : g - 1 < V.length := by omega
    rw [List.getD_eq_getElem?_getD, List.getElem?_eq_getElem h0, Option.getD_some]
    rcases Nat.lt_trichotomy a (g - 1) with c | c | c
    · have := mono c h0
      omega
    · subst c
      omega
    · have := mono c ha
      omega
theorem gk_lt {V : List Int} (up : V.Pairwise (· < ·)) {a g : Nat} (ha : a < V.length) (hg : g ≤ V.length) : gk V g < 2 * V[a] ↔ g ≤ a := by
  have h := gk_gt up ha hg
  obtain ⟨z, hz⟩ := gk_odd V g
  omega
/-- which keys of gaps look at a place -/
theorem gaps_look {T : Tab} {n i j : Nat} {V : List Int} (t : IsTab T n) (up : V.Pairwise (· < ·)) (hV : ∀ v, v ∈ V ↔ v ∈ T.flatten) (hi : i < T.length) (hj : j < n) :
    ∃ p q, p ≤ V.length ∧ q ≤ V.length ∧ (∀ g, g ≤ V.length → ((i, j) ∈ (run (dbl T) n (gk V g)).1 ↔ p ≤ g ∧ g ≤ q)) ∧ loB T n i j = (if 0 < p then some (V.getD (p - 1) 0) else none) ∧ hiB T n i j = (if q < V.length then some (V.getD q 0) else none) := by
  have t' := dbl_is t
  have look : ∀ g, (i, j) ∈ (run (dbl T) n (gk V g)).1 ↔ Btw (dbl T) n (gk V g) i j := fun g => by
    refine ⟨run_btw t', fun b => btw_run t' (fun hm => ?_) _ i j rfl (by rw [dbl_len]; exact hi) hj b⟩
    obtain ⟨u, _, e⟩ := dbl_even hm
    obtain ⟨z, hz⟩ := gk_odd V g
    omega
  obtain ⟨p, hp, hp1, hp2⟩ : ∃ p, p ≤ V.length ∧ loB T n i j = (if 0 < p then some (V.getD (p - 1) 0) else none) ∧ ∀ g, g ≤ V.length → ((∀ a, loB (dbl T) n i j = some a → a < gk V g) ↔ p ≤ g) := by
    rw [lo_dbl]
    by_cases h0 : 0 < i
    · have e : loB T n i j = some (lev T n (i - 1) j) := by unfold loB; rw [if_pos h0]
      have hm := (hV _).mpr (lev_mem t _ (i - 1) j (Nat.le_refl _) (by omega) hj)
      obtain ⟨a, ha, ea⟩ := List.mem_iff_getElem.mp hm
      refine ⟨a + 1, ha, ?_, fun g hg => ?_⟩
      · rw [e, if_pos (by omega), ← ea, show a + 1 - 1 = a by omega, List.getD_eq_getElem?_getD, List.getElem?_eq_getElem ha, Option.getD_some]
      · rw [e, ← ea, ← gk_gt up ha hg]
        constructor
        · intro h
          exact h _ rfl
        · intro h b hb
          injection hb with hb
          rw [← hb]
          exact h
    · have e : loB T n i j = none := by unfold loB; rw [if_neg h0]
      refine ⟨0, Nat.zero_le _, by rw [e, if_neg (by omega)], fun g hg => ?_⟩
      rw [e]
      exact ⟨fun _ => Nat.zero_le _, fun _ a ha => by cases ha⟩
  obtain ⟨q, hq, hq1, hq2⟩ : ∃ q, q ≤ V.length ∧ hiB T n i j = (if q < V.length then some (V.getD q 0) else none) ∧ ∀ g, g ≤ V.length → ((∀ a, hiB (dbl T) n i j = some a → gk V g < a) ↔ g ≤ q) := by
    rw [hi_dbl]
    by_cases h0 : j + 1 < n
    · have e : hiB T n i j = some (lev T n i (j + 1)) := by unfold hiB; rw [if_pos h0]
      have hm := (hV _).mpr (lev_mem t _ i (j + 1) (Nat.le_refl _) hi h0)
      obtain ⟨a, ha, ea⟩ := List.mem_iff_getElem.mp hm
      refine ⟨a, Nat.le_of_lt ha, ?_, fun g hg => ?_⟩
      · rw [e, if_pos ha, ← ea, List.getD_eq_getElem?_getD, List.getElem?_eq_getElem ha, Option.getD_some]
      · rw [e, ← ea, ← gk_lt up ha hg]
        constructor
        · intro h
          exact h _ rfl
        · intro h b hb
          injection hb with hb
          rw [← hb]
          exact h
    · have e : hiB T n i j = none := by unfold hiB; rw [if_neg h0]
      refine ⟨V.length, Nat.le_refl _, by rw [e, if_neg (by omega)], fun g hg => ?_⟩
      rw [e]
      exact ⟨fun _ => hg, fun _ a ha => by cases ha⟩
  refine ⟨p, q, hp, hq, fun g hg => ?_, hp1, hq1⟩
  rw [look, ← hp2 g hg, ← hq2 g hg]
  exact ⟨fun b => ⟨b.lo, b.hi⟩, fun b => ⟨b.1, b.2⟩⟩
end G

namespace G
open PySem PySem.Spec PyProof.Rows L2
section
variable {X : Cx} {ρ : List SD} {M : Mem} {Q : Kn} {pos : Pos} {elt tg it tg1 it1 : Expr} {ifs ifs1 : List Expr} {scope : Scope} {own : List (Str × Nat)}
theorem ssetlc2 (i : Nat) (t t1 : Tg) (vs1 : List Nat) {y : Str} {py spos : Pos} {D : GD} (hc : X.calm = true) (hN : X.N.Nodup) (hy : X.N[i]? = some y) (hyl : X.env.scope.names.lookup y = some .local)
    (hsw : swapsWith (.ListComp elt [⟨tg, it, ifs, 0⟩, ⟨tg1, it1, ifs1, 0⟩] scope pos) (some (.Name y py)) spos.line X.env = pure true) (ok : BlkOk X.N X.env.scope scope own) (hv : ∀ i ∈ vs1, i ∈ own.map (·.2)) (ht : TgOk X scope tg t) (ht1 : TgOk X scope tg1 t1) (hi : ∀ j ∈ t.ix, j ∈ own.map (·.2)) (hi1 : ∀ j ∈ t1.ix, j ∈ vs1)
    (h : GI X ρ M tg it (LComp2 X scope ρ (own.map (·.2)) vs1 t t1 ifs tg1 it1 ifs1 elt fun r M' => D.nx (ρ.set i r) M'))
    (hs : ∀ x, foldedSetIterable it X.env x = pure x := by intro _; rfl) (hs1 : ∀ env x, foldedSetIterable it1 env x = pure x := by intro _ _; rfl) : GS X ρ M (.Assign [.Name y py] (.ListComp elt [⟨tg, it, ifs, 0⟩, ⟨tg1, it1, ifs1, 0⟩] scope pos) spos) D := .mk fun B F H σ D' W S s => by
  refine wS_of (ps_setLc2 hc hN hy hyl hsw pI ok hv ht (fun _ _ _ _ _ => bT_p) (fun _ _ _ _ _ => bI_p) ht1 (fun _ _ _ _ _ => bT_p) (fun _ _ _ _ _ => bE_p) hs hs1) ?_
  refine lc2_run (Q' := fun v H1 => gName i v σ H1 D'.nx) hi hi1 h W S fun r M' v F' H' q W' s' vv => ?_
  exact s.nx _ _ _ F' H' q W' s' (pset vv i (pMono s' S))
end
theorem asc_uniq : ∀ {l1 l2 : List Int}, l1.Pairwise (· < ·) → l2.Pairwise (· < ·) → (∀ k, k ∈ l1 ↔ k ∈ l2) → l1 = l2 := fun {l1 l2} h1 h2 h => by
  refine sort_uniq (R := fun a b : Int => a < b) (fun a b g1 g2 => by omega) ?_ h1 h2
  have n1 : l1.Nodup := h1.imp fun {a b} h e => by omega
  have n2 : l2.Nodup := h2.imp fun {a b} h e => by omega
  exact (List.perm_ext_iff_of_nodup n1 n2).mpr h
theorem mem2_all {T : Tab} {n : Nat} (t : IsTab T n) (k : Int) : k ∈ mem2 T.length (fun _ => n) (fun _ _ => true) (val T) ↔ k ∈ T.flatten := by
  unfold mem2
  constructor
  · intro h
    obtain ⟨i, hi, h⟩ := List.mem_flatMap.mp h
    obtain ⟨j, hj, e⟩ := List.mem_map.mp h
    rw [← e]
    exact val_in t (List.mem_range.mp hi) (List.mem_range.mp (List.mem_filter.mp hj).1)
  · intro h
    obtain ⟨r, hr, hk⟩ := List.mem_flatten.mp h
    obtain ⟨i, hi, e⟩ := List.mem_iff_getElem.mp hr
    obtain ⟨j, hj, e2⟩ := List.mem_iff_getElem.mp hk
    have hjn : j < n := by rw [← t.rows r hr]; exact hj
    refine List.mem_flatMap.mpr ⟨i, List.mem_range.mpr hi, List.mem_map.mpr ⟨j, List.mem_filter.mpr ⟨List.mem_range.mpr hjn, rfl⟩, ?_⟩⟩
    rw [t.val hi hjn]
    subst e
    exact e2
def spotsTo (m n : Nat) : List (Nat × Nat) := (List.range m).flatMap fun i => (List.range n).map fun j => (i, j)
theorem spots_succ (m n : Nat) : spotsTo (m + 1) n = spotsTo m n ++ (List.range n).map fun j => (m, j) := by
  unfold spotsTo
  rw [List.range_succ, List.flatMap_append]
  simp
theorem spots_len (m n : Nat) : (spotsTo m n).length = m * n := by
  induction m with
  | zero => simp [spotsTo]
  | succ m ih => rw [spots_succ, List.length_append, ih, List.length_map, List.length_range, Nat.succ_mul]
theorem spots_in {m n : Nat} {p : Nat × Nat} (h : p ∈ spotsTo m n) : p.1 < m ∧ p.2 < n := by
  obtain ⟨i, hi, h⟩ := List.mem_flatMap.mp h
  obtain ⟨j, hj, e⟩ := List.mem_map.mp h
  subst e
  exact ⟨List.mem_range.mp hi, List.mem_range.mp hj⟩
theorem fm2_spots (m n : Nat) : fm2 m (fun _ => n) (fun _ _ => true) (fun i j => pld (i, j)) = (spotsTo m n).map pld := by
  unfold fm2 spotsTo
  rw [List.map_flatMap]
  congr 1
  funext i
  rw [fm_all, List.map_map]
  rfl
/-- the keys of the gaps of doubled values -/
def gkL (V : List Int) : List Int := (2 * V.getD 0 0 - 1) :: V.map fun v => 2 * v + 1
theorem gkL_len (V : List Int) : (gkL V).length = V.length + 1 := by simp [gkL]
theorem gkL_at (V : List Int) {g : Nat} (h : g ≤ V.length) : (gkL V).getD g 0 = gk V g := by
  unfold gkL gk
  cases g with
  | zero => rfl
  | succ g =>
    have hg : g < V.length := h
    simp [List.getD_eq_getElem?_getD, hg]
end G

namespace G
open PySem PySem.Spec PyProof.Rows L2
/-- values of a drawn table -/
abbrev VBd (ns : List Int) : Prop := ∀ v ∈ ns, v.natAbs ≤ 10 ^ 40
/-! ### calls by keywords -/
section
variable {X : Cx} {ρ : List SD} {M : Mem} {Q : Kn} {pos p : Pos} {kw : Keyword} {kws : List Keyword} {k : Nat} {x : Str} {st : Stmt} {ps ks : List Str} {S : GSpec} {g : {α : Type} → List α → List α}
theorem gcalK (C : Cal X.prog X.w X.K X.mg X.base k x st ps S) (hgd : X.A.guards = some []) (hr : Room k X.A) (hb : ∀ f fd, Fun X.K x x st f fd → KwB X.K fd ps ks g)
    (h : GK X ρ M (kw :: kws) fun rs M1 => rs.length = ks.length ∧ S (g rs) [] fun r M' => Q r (M' ++ M1)) (hg : Gl X x := by rfl) (hdb : (x == ("__debug__" : Str)) = false := by decide)
    (hall : (backToKw pos (keywordEach (kw :: kws) X.env)).all (·.1.isSome) = true := by rfl) (hks : (backToKw pos (keywordEach (kw :: kws) X.env)).filterMap (·.1) = ks := by rfl)
    (hpl : ((backTo pos (starEach [] X.env)).any (·.1) || (backToKw pos (keywordEach (kw :: kws) X.env)).any (·.1.isNone)) = false := by rfl) : GE X ρ M (.Call (.Name x p) [] (kw :: kws) pos) Q := by
  obtain ⟨f, fd, F, m, b, G⟩ := C.ex
  exact gcallK G hgd hr m F.kp (hb f fd F) (.mk fun B F H σ Q' W S' s => h B F H σ Q' W S' fun rs M1 vs F1 H1 hx W1 s1 vx => s rs M1 vs F1 H1 ⟨hx.1, [], M1, .refl _, hx.2⟩ W1 s1 vx) hg hdb hall hks hpl
end
def swp {α : Type} : List α → List α
  | [a, b] => [b, a]
  | l => l
theorem swp_rel {α β : Type} {R : α → β → Prop} {xs : List α} {ys : List β} (hl : xs.length = 2) (h : Paired R xs ys) : Paired R (swp xs) (swp ys) := by
  match xs, hl, h with
  | [a, b], _, .cons h1 (.cons h2 .nil) => exact .cons h2 (.cons h1 .nil)
/-! ### what is shown -/
theorem ib_nat {n : Nat} (h : n ≤ 1000) : IB (n : Int) := by
  show (n : Int).natAbs < 10 ^ 60
  rw [Int.natAbs_natCast]
  exact Nat.lt_of_le_of_lt h (by decide)
theorem ib_vb {v : Int} (h : v.natAbs ≤ 10 ^ 40) : IB v := Nat.lt_of_le_of_lt h (by decide)
theorem gd_en {p : Int × Int} (h1 : IB p.1) (h2 : IB p.2) : Gd 1 402 (enD p) := gd_tuple (k := 0) (w := 200) (n := 2) (fun d hd => by
  rcases List.mem_cons.mp hd with e | hd
  · rw [e]; exact gd_int h1
  · rw [List.mem_singleton.mp hd]; exact gd_int h2) (Nat.le_refl 2)
theorem gd_ints {L : List Int} (h : ∀ v ∈ L, IB v) (hl : L.length ≤ 64) : Gd 2 25792 (.list (L.map .int)) := (gd_list (k := 0) (w := 200) (n := 64) (fun d hd => by
  obtain ⟨v, hv, e⟩ := List.mem_map.mp hd
  rw [← e]
  exact gd_int (h v hv)) (by rw [List.length_map]; exact hl)).up (by decide) (by decide)
theorem gd_bools {L : List Bool} (hl : L.length ≤ 64) : Gd 2 25792 (.list (L.map .bool)) := (gd_list (k := 0) (w := 200) (n := 64) (fun d hd => by
  obtain ⟨v, hv, e⟩ := List.mem_map.mp hd
  rw [← e]
  exact gd_bool v) (by rw [List.length_map]; exact hl)).up (by decide) (by decide)
theorem gd_ens {L : List (Int × Int)} (h : ∀ p ∈ L, IB p.1 ∧ IB p.2) (hl : L.length ≤ 64) : Gd 2 25792 (.list (L.map enD)) := gd_list (k := 1) (w := 402) (n := 64) (fun d hd => by
  obtain ⟨v, hv, e⟩ := List.mem_map.mp hd
  rw [← e]
  exact gd_en (h v hv).1 (h v hv).2) (by rw [List.length_map]; exact hl)
theorem gd_pls {L : List (Nat × Nat)} (h : ∀ p ∈ L, p.1 ≤ 8 ∧ p.2 ≤ 8) (hl : L.length ≤ 64) : Gd 2 25792 (.list (L.map plD)) := by
  have z := gd_ens (L := L.map fun p => ((p.1 : Int), (p.2 : Int))) (fun p hp => by
    obtain ⟨q, hq, e⟩ := List.mem_map.mp hp
    rw [← e]
    have := h q hq
    exact ⟨ib_nat (by omega), ib_nat (by omega)⟩) (by rw [List.length_map]; exact hl)
  rw [List.map_map] at z
  exact z
theorem gd_three {a b c : PyData} (ha : Gd 2 25792 a) (hb : Gd 2 25792 b) (hc : Gd 2 25792 c) : Shows (.list [a, b, c]) := (gd_list (k := 2) (w := 25792) (n := 3) (ds := [a, b, c]) (fun d hd => by
  rcases List.mem_cons.mp hd with e | hd
  · rw [e]; exact ha
  rcases List.mem_cons.mp hd with e | hd
  · rw [e]; exact hb
  · rw [List.mem_singleton.mp hd]; exact hc) (Nat.le_refl 3)).shows (by decide) (by decide)
theorem shows_tab {T : Tab} {n : Nat} (t : IsTab T n) (vb : VBd T.flatten) : Shows (tab T) := (gd_list (k := 1) (w := 1608) (n := 8) (fun d hd => by
  obtain ⟨r, hr, e⟩ := List.mem_map.mp hd
  rw [← e]
  exact gd_list (k := 0) (w := 200) (n := 8) (fun d hd => by
    obtain ⟨v, hv, e⟩ := List.mem_map.mp hd
    rw [← e]
    exact gd_int (ib_vb (vb v (List.mem_flatten.mpr ⟨r, hr, hv⟩)))) (by rw [List.length_map, t.rows r hr]; exact t.nle)) (by rw [List.length_map]; exact t.le)).shows (by decide) (by decide)
theorem paired_pu (M : Mem) : ∀ ds : List PyData, Paired (MD M) (ds.map SD.pu) ds
  | [] => .nil
  | d :: ds => .cons (.pu d) (paired_pu M ds)
theorem md_lst {M : Mem} {l : Addr} {ds : List PyData} (h : (l, MO.lst (ds.map SD.pu)) ∈ M) : MD M (.rf (.ref l)) (.list ds) := .mem h (paired_pu M ds)
theorem same_no {x : Str} : (!decide (x = x)) = false := by simp
/-- where a search ends -/
theorem go_small {T : Tab} {k : Int} : ∀ (f i c : Nat), i ≤ 8 → c ≤ 8 → T.length ≤ 8 → IB (go T k f i c).2.1 ∧ IB (go T k f i c).2.2
  | 0, i, c, h1, h2, h3 => ⟨ib_nat (by omega), by show ((c : Int) - 1).natAbs < 10 ^ 60; exact Nat.lt_of_le_of_lt (show ((c : Int) - 1).natAbs ≤ 9 by omega) (by decide)⟩
  | f + 1, i, c, h1, h2, h3 => by
    by_cases h : i < T.length ∧ 0 < c
    · obtain ⟨h4, h5⟩ := h
      rcases Int.lt_trichotomy (val T i (c - 1)) k with hv | hv | hv
      · rw [go_lt h4 h5 hv]
        exact go_small f (i + 1) c (by omega) h2 h3
      · rw [go_eq h4 h5 hv]
        exact ⟨ib_nat (by omega), by show ((c : Int) - 1).natAbs < 10 ^ 60; exact Nat.lt_of_le_of_lt (show ((c : Int) - 1).natAbs ≤ 9 by omega) (by decide)⟩
      · rw [go_gt h4 h5 hv]
        exact go_small f i (c - 1) h1 (by omega) h3
    · rw [go_out h]
      exact ⟨ib_nat (by omega), by show ((c : Int) - 1).natAbs < 10 ^ 60; exact Nat.lt_of_le_of_lt (show ((c : Int) - 1).natAbs ≤ 9 by omega) (by decide)⟩
theorem run_small {T : Tab} {n : Nat} (k : Int) (t : IsTab T n) : IB (run T n k).2.1 ∧ IB (run T n k).2.2 := go_small _ 0 n (by omega) t.nle t.le
theorem shows_two {d : PyData} {k w : Nat} (h : Gd k w d) (hk : k + 1 ≤ 20) (hw : 2 * (w + 1) ≤ 200000) : Shows (.list [d, d]) := (gd_list (k := k) (w := w) (n := 2) (ds := [d, d]) (fun e he => by
  rcases List.mem_cons.mp he with z | he
  · rw [z]; exact h
  · rw [List.mem_singleton.mp he]; exact h) (Nat.le_refl 2)).shows hk hw
theorem paired_md2 {M : Mem} {a b : SD} {d e : PyData} (h1 : MD M a d) (h2 : MD M b e) : Paired (MD M) [a, b] [d, e] := .cons h1 (.cons h2 .nil)
end G

namespace G
open PySem PySem.Spec PyProof.Rows L2
section
variable {X : Cx} {ρ : List SD} {M : Mem} {Q : Kn} {pos : Pos} {a b e : Expr}
theorem gmaxl {p : Pos} (hc : X.calm = true) (hm : X.mg "max" = none) (h : GE X ρ M e fun x M1 => ∃ ns, LV M1 x (pints ns) ∧ 0 < ns.length ∧ ∀ m, m ∈ ns → (∀ y, y ∈ ns → y ≤ m) → Q (.pu (.int m)) M1) (hg : Gl X "max" := by rfl) (he : starEach [e] X.env = [(false, eval e X.env)] := by rfl) : GE X ρ M (.Call (.Name "max" p) [e] [] pos) Q :=
  gcb (cr_max hc) hm PyProof.Rows.boot_max (acons (h.mono fun x M1 ⟨ns, lv, h0, q⟩ => anil fun B F H vs Q' W hvs s => by
    obtain ⟨v, rfl, hv⟩ := p1 hvs
    obtain ⟨p, ws, rfl, hp, pr⟩ := lv.at W hv
    have ew := ints_of pr
    subst ew
    exact ⟨p, ns, rfl, .of hp, h0, fun m h1 h2 => s _ M1 _ F H (q m h1 h2) W (Same.refl F) (.int _)⟩) he) hg (he := he)
theorem gminl {p : Pos} (hc : X.calm = true) (hm : X.mg "min" = none) (h : GE X ρ M e fun x M1 => ∃ ns, LV M1 x (pints ns) ∧ 0 < ns.length ∧ ∀ m, m ∈ ns → (∀ y, y ∈ ns → m ≤ y) → Q (.pu (.int m)) M1) (hg : Gl X "min" := by rfl) (he : starEach [e] X.env = [(false, eval e X.env)] := by rfl) : GE X ρ M (.Call (.Name "min" p) [e] [] pos) Q :=
  gcb (cr_min hc) hm PyProof.Rows.boot_min (acons (h.mono fun x M1 ⟨ns, lv, h0, q⟩ => anil fun B F H vs Q' W hvs s => by
    obtain ⟨v, rfl, hv⟩ := p1 hvs
    obtain ⟨p, ws, rfl, hp, pr⟩ := lv.at W hv
    have ew := ints_of pr
    subst ew
    exact ⟨p, ns, rfl, .of hp, h0, fun m h1 h2 => s _ M1 _ F H (q m h1 h2) W (Same.refl F) (.int _)⟩) he) hg (he := he)
theorem glistr3 {p p2 cpos : Pos} (hc : X.calm = true) (hm : X.mg "list" = none) (hm2 : X.mg "range" = none)
    (h : GE X ρ M a fun x M1 => ∃ i, x = .pu (.int i) ∧ GE X ρ M1 b fun y M2 => ∃ j, y = .pu (.int j) ∧ RgOk i j ∧ ∀ l, Q (.rf (.ref l)) ((l, .lst (pints ((List.range (j - i).toNat).map fun k : Nat => i + (k : Int)))) :: M2))
    (hg : Gl X "list" := by rfl) (hg2 : Gl X "range" := by rfl) (na : starEach [a, b] X.env = (false, eval a X.env) :: starEach [b] X.env := by rfl)
    (nb : starEach [b] X.env = (false, eval b X.env) :: starEach [] X.env := by rfl) (hp : (backTo cpos (starEach [b] X.env)).any (·.1) = false := by rfl)
    (he2 : starEach [.Call (.Name "range" p2) [a, b] [] cpos] X.env = [(false, eval (.Call (.Name "range" p2) [a, b] [] cpos) X.env)] := by rfl) : GE X ρ M (.Call (.Name "list" p) [.Call (.Name "range" p2) [a, b] [] cpos] [] pos) Q := .mk fun B F H σ Q' W S s => by
  refine wE_of (pe_listRg hc hg hm (prg_2 hg2 hm2 pE pE na nb hp) he2) (h B F H σ _ W S fun x M1 v F1 H1 hx W1 s1 vx => ?_)
  obtain ⟨i, rfl, hx⟩ := hx
  refine hx B F1 H1 σ _ W1 (pMono s1 S) fun y M2 w F2 H2 hy W2 s2 wy => ?_
  obtain ⟨j, rfl, hn, q⟩ := hy
  have vx : Dt F2 v (.int i) := vx.mono s2
  have wy : Dt F2 w (.int j) := wy
  cases vx
  cases wy
  refine ⟨i, j, rfl, rfl, hn, fun d hd => ?_⟩
  rw [rgV_ints2]
  exact s _ _ _ F2 _ (q d) (W2.newl hd (of_ints _)) (s1.trans s2) rfl
end
theorem pick4q (a b c d : Int) (n : Nat) : ∃ q, (q = a ∨ q = b ∨ q = c ∨ q = d) ∧ atI [SD.pu (.int a), .pu (.int b), .pu (.int c), .pu (.int d)] ((n : Int) % 4) = some (.pu (.int q)) := by
  obtain ⟨r, e, hr⟩ : ∃ r : Nat, (n : Int) % 4 = r ∧ r < 4 := ⟨n % 4, by omega, by omega⟩
  rw [e]
  obtain rfl | rfl | rfl | rfl : r = 0 ∨ r = 1 ∨ r = 2 ∨ r = 3 := by omega
  · exact ⟨a, .inl rfl, rfl⟩
  · exact ⟨b, .inr (.inl rfl), rfl⟩
  · exact ⟨c, .inr (.inr (.inl rfl)), rfl⟩
  · exact ⟨d, .inr (.inr (.inr rfl)), rfl⟩
theorem pick5q (a b c d f : Int) (n : Nat) : ∃ q, (q = a ∨ q = b ∨ q = c ∨ q = d ∨ q = f) ∧ atI [SD.pu (.int a), .pu (.int b), .pu (.int c), .pu (.int d), .pu (.int f)] ((n : Int) % 5) = some (.pu (.int q)) := by
  obtain ⟨r, e, hr⟩ : ∃ r : Nat, (n : Int) % 5 = r ∧ r < 5 := ⟨n % 5, by omega, by omega⟩
  rw [e]
  obtain rfl | rfl | rfl | rfl | rfl : r = 0 ∨ r = 1 ∨ r = 2 ∨ r = 3 ∨ r = 4 := by omega
  · exact ⟨a, .inl rfl, rfl⟩
  · exact ⟨b, .inr (.inl rfl), rfl⟩
  · exact ⟨c, .inr (.inr (.inl rfl)), rfl⟩
  · exact ⟨d, .inr (.inr (.inr (.inl rfl))), rfl⟩
  · exact ⟨f, .inr (.inr (.inr (.inr rfl))), rfl⟩
end G

namespace G
open PySem PySem.Spec PyProof.Rows L2
abbrev Hld (L M : Mem) : Prop := ∃ Mz, List.Perm M (L ++ Mz)
theorem gbhld {X : Cx} {ρ : List SD} {M L : Mem} {sts : List Stmt} {D : GD} (h : Hld L M) (q : GB X ρ L sts D) : GB X ρ M sts D := by
  obtain ⟨Mz, hp⟩ := h
  exact gbperm hp (gbforget (List.sublist_append_left _ _) q)
theorem gehld {X : Cx} {ρ : List SD} {M L : Mem} {e : Expr} {Q : Kn} (h : Hld L M) (q : GE X ρ L e Q) : GE X ρ M e Q := by
  obtain ⟨Mz, hp⟩ := h
  exact geperm hp (gforget (List.sublist_append_left _ _) q)
theorem hld_refl (L : Mem) : Hld L L := ⟨[], by rw [List.append_nil]⟩
/-- a list of lists is frozen as a whole, the others stay -/
theorem gzk {X : Cx} {ρ : List SD} {M : Mem} {Q : Kn} {e : Expr} (h : GE X ρ M e fun r M' => ∃ (l : Addr) (rows : List (Addr × List Int)) (Mz : Mem), r = .rf (.ref l) ∧ M'.Perm ((l, .lst (rows.map rowR)) :: (rows.map rowM ++ Mz)) ∧ Q (.pu (tab (rows.map (·.2)))) Mz) : GE X ρ M e Q := .mk fun B F H σ Q' W S s => h B F H σ Q' W S fun r M' v F1 H1 hx W1 s1 vx => by
  obtain ⟨l, rows, Mz, rfl, pm, q⟩ := hx
  obtain ⟨F2, s2, W2⟩ := Wd.deep (pre := []) (W1.perm pm)
  have e : ([] ++ rows.map fun d => SD.pu (rowD d.2)) = ((rows.map (·.2)).map rowD).map SD.pu := by
    rw [List.map_map, List.map_map]
    rfl
  rw [e] at W2
  obtain ⟨F3, s3, W3, d⟩ := W2.freeze
  have vx : v = .ref l := vx
  subst vx
  exact s _ Mz _ F3 H1 q W3 ((s1.trans s2).trans s3) d
theorem md_ints' {M : Mem} : ∀ r : List Int, Paired (MD M) (pints r) (r.map PyData.int)
  | [] => .nil
  | v :: r => .cons (.pu _) (md_ints' r)
theorem md_rows {M : Mem} : ∀ {rows : List (Addr × List Int)}, (∀ d ∈ rows, rowM d ∈ M) → Paired (MD M) (rows.map rowR) (rows.map fun d => rowD d.2)
  | [], _ => .nil
  | d :: rows, h => .cons (.mem (h d List.mem_cons_self) (md_ints' d.2)) (md_rows fun e he => h e (List.mem_cons_of_mem _ he))
theorem shaped_tab (T : Tab) : SeqAt.shaped (tab T) = true := by
  have h1 : ∀ r : List Int, PyData.canLayAll0 (r.map .int) = true ∧ PyData.depthAll (r.map .int) ≤ 1 := by
    intro r
    induction r with
    | nil => exact ⟨rfl, Nat.zero_le _⟩
    | cons p L ih => exact ⟨by simp [PyData.canLayAll0, PyData.canLay0, ih.1], by simp only [List.map_cons, PyData.depthAll, PyData.depth]; have := ih.2; omega⟩
  have h2 : PyData.canLayAll0 (T.map rowD) = true ∧ PyData.depthAll (T.map rowD) ≤ 2 := by
    induction T with
    | nil => exact ⟨rfl, Nat.zero_le _⟩
    | cons r T ih => exact ⟨by simp [PyData.canLayAll0, PyData.canLay0, ih.1, (h1 r).1], by simp only [List.map_cons, PyData.depthAll, PyData.depth]; have := ih.2; have := (h1 r).2; omega⟩
  exact shaped_of 2 (by decide) h2.1 h2.2
theorem tab_nil (T : Tab) : PyData.eqv (tab T) (.list []) = decide (T = []) := by
  cases T with
  | nil => rfl
  | cons r T => simp [PyData.eqv, PyData.eqvAll]
theorem repL_one (n : Nat) (v : Int) : repL n [SD.pu (.int v)] = pints (List.replicate n v) := by
  unfold repL
  induction n with
  | zero => rfl
  | succ n ih => rw [List.replicate_succ, List.flatten_cons, ih, List.replicate_succ]; rfl
theorem cutL_sub {α : Type} {L : List α} {i j : Option Int} : ∀ v ∈ cutL L i j, v ∈ L := fun v hv => List.mem_of_mem_drop (List.mem_of_mem_take hv)
theorem rows_cut {α : Type} (rows : List α) {i : Nat} (h : i < rows.length) : ∃ R1 R2, rows = R1 ++ rows[i] :: R2 ∧ R1.length = i := ⟨rows.take i, rows.drop (i + 1), by rw [List.getElem_cons_drop, List.take_append_drop], by rw [List.length_take]; omega⟩
end G

namespace G
open PySem PySem.Spec PyProof.Rows L2
theorem pints_len' (ns : List Int) : (pints ns).length = ns.length := List.length_map ..
theorem pints_at' {ns : List Int} {i : Nat} (h : i < ns.length) : (pints ns)[i]? = some (.pu (.int ns[i])) := by rw [List.getElem?_map, List.getElem?_eq_getElem h]; rfl
theorem pints_app' (a b : List Int) : pints (a ++ b) = pints a ++ pints b := List.map_append
theorem pints_cut' (L : List Int) (i j : Nat) : ((pints L).drop i).take j = pints ((L.drop i).take j) := by
  unfold pints
  rw [List.map_take, List.map_drop]
theorem pints_pu' (L : List Int) : pints L = (L.map PyData.int).map SD.pu := by
  rw [List.map_map]
  rfl
section
variable {X : Cx} {ρ : List SD} {M : Mem} {Q : Kn} {QT : Bool → Mem → Prop} {pos : Pos} {a b e : Expr} {rest : List Expr}
/-! ### truth of data -/
def dTru : PyData → Bool
  | .none => false
  | .bool b => b
  | .int i => i != 0
  | .str x => (x.length : Int) != 0
  | .list ds => !ds.isEmpty
  | .tuple ds => !ds.isEmpty
  | _ => false
def dTruOk : PyData → Prop
  | .str x => x.length ≤ sizeLine
  | _ => True
theorem emp_of {F : Hp} {vs : List V} {ds : List PyData} (h : DtA F vs ds) : (!ds.isEmpty) = !vs.isEmpty := by cases h <;> rfl
theorem tru_of {K : PySem.W.Frag} {B : Bs} {F H : Hp} {v : V} {d : PyData} (W : Wd B F H M) (h : Dt F v d) (ok : dTruOk d) : TruV K v H (dTru d) := by
  cases h with
  | non => exact rfl
  | bl b => exact rfl
  | int i => exact rfl
  | str x => exact ⟨ok, rfl⟩
  | lst h1 h2 => exact .inl ⟨_, .of (W.fh _ _ h1), emp_of h2⟩
  | tup h1 h2 => exact .inr (.inl ⟨_, .of (W.fh _ _ h1), emp_of h2⟩)
/-- a or b .., a's truth known -/
theorem gorT (h : GE X ρ M a fun x M1 => ∃ d, x = .pu d ∧ dTruOk d ∧ if dTru d = true then Q x M1 else GE X ρ M1 (.BoolOp .Or (b :: rest) pos) Q) : GE X ρ M (.BoolOp .Or (a :: b :: rest) pos) Q := .mk fun B F H σ Q' W S s => by
  refine wE_of (pe_orT pE pE) (h B F H σ _ W S fun r M1 v F1 H1 hx W1 s1 vx => ?_)
  obtain ⟨d, rfl, ok, hx⟩ := hx
  have vx : Dt F1 v d := vx
  refine ⟨dTru d, tru_of W1 vx ok, ?_⟩
  cases hk : dTru d with
  | true =>
    rw [hk] at hx
    exact iteT (s _ M1 v F1 H1 hx W1 s1 vx)
  | false =>
    rw [hk] at hx
    exact iteF ((show GE X ρ M1 _ Q from hx) B F1 H1 σ Q' W1 (pMono s1 S) (s.mono s1))
/-- data as a test -/
theorem ttru (h : GE X ρ M e fun x M1 => ∃ d, x = .pu d ∧ dTruOk d ∧ QT (dTru d) M1) (he : ∀ whole, isTrue e X.env whole = (do let v ← whole; standAt e.pos; holding [v] (truthy v)) := by intro _; rfl) : GT X ρ M e QT := .mk fun B F H σ Q' W S s => by
  refine wT_of (pt_truth pE he) (h B F H σ _ W S fun r M1 v F1 H1 hx W1 s1 vx => ?_)
  obtain ⟨d, rfl, ok, hx⟩ := hx
  exact ⟨dTru d, tru_of W1 vx ok, s _ M1 F1 H1 hx W1 s1⟩

/-! ### a block beside lists that it does not know -/
theorem gbframe {Ma Mr : Mem} {sts : List Stmt} {D1 D : GD} (h : GB X ρ Ma sts D1) (h1 : ∀ ρ' M', D1.nx ρ' M' → D.nx ρ' (M' ++ Mr)) (h2 : ∀ r M', D1.rt r M' → D.rt r (M' ++ Mr)) (h3 : ∀ ρ' M', D1.bk ρ' M' → D.bk ρ' (M' ++ Mr)) (h4 : ∀ ρ' M', D1.ct ρ' M' → D.ct ρ' (M' ++ Mr)) : GB X ρ (Ma ++ Mr) sts D := .mk fun B F H σ D' W S s =>
  h (here F H Ma) F H σ D' (W.sub (List.sublist_append_left Ma Mr)).here S ⟨fun ρ1 M1 σ1 F1 H1 q W1 s1 S1 => s.nx ρ1 _ σ1 F1 H1 (h1 _ _ q) (W.frame W1) s1 S1, fun r M1 v F1 H1 q W1 s1 vv => s.rt r _ v F1 H1 (h2 _ _ q) (W.frame W1) s1 vv,
    fun ρ1 M1 σ1 F1 H1 q W1 s1 S1 => s.bk ρ1 _ σ1 F1 H1 (h3 _ _ q) (W.frame W1) s1 S1, fun ρ1 M1 σ1 F1 H1 q W1 s1 S1 => s.ct ρ1 _ σ1 F1 H1 (h4 _ _ q) (W.frame W1) s1 S1⟩

/-! ### the outer loop of a law: over its lists of draws -/
theorem sdraws (DrA : Nat → List SD → Prop) (i1 i3 : Nat) (c per : Nat) (R : List SD → Prop) {D : GD} {sts : List Stmt} {addr : Addr} {ns : List Int} {tn cn : Str} {elt : Expr} {scope : Scope} {ci : Int} {j1 j2 : Nat} {p0 p1 p2 p3 p4 p5 p6 p7 p8 p9 : Pos}
    (hc : X.calm = true) (hN : X.N.Nodup) (hp : PassesOwn (model X.prog X.w) X.A X.env X.xe) (dm : ∀ N N' xs, DrA N xs → N ≤ N' → DrA N' xs) (hci : ci = (c : Int)) (h8 : c ≤ 60)
    (hi1 : X.N[i1]? = some tn) (hl1 : Loc X.env.scope tn) (hf1 : X.fn tn = true ∨ X.env.scope.names.lookup tn = some .local)
    (h0 : ρ[0]? = some (.rf (.ref addr))) (hsc : Scr X.K M addr ns) (hN0 : X.N[0]? = some ("_law_script" : Str)) (hv0 : Vis X.env.scope ("_law_script" : Str))
    (ok : BlkOk X.N X.env.scope scope [(cn, i3)]) (ht : TgOk X scope (.Name cn p1) (.name i3)) (hw : i3 < ρ.length)
    (hcall : ∀ (z : Int) (ρ2 : List SD), ρ2[i3]? = some (.pu (.int z)) → ∀ Y, Blk X scope Y → ∀ (M1 : Mem) (Q1 : Kn), (∀ l xs, DrA 0 xs → Q1 (.rf (.ref l)) ((l, .lst xs) :: M1)) → GE Y ρ2 M1 elt Q1)
    (hR : R ρ)
    (body : ∀ (D' : Addr) (ys : List SD) (N : Nat) (ρ' : List SD), R ρ' → N + per ≤ (c + 1) * per → DrA N ys → GB X (ρ'.set i1 (.rf (.ref D'))) [(D', .lst ys)] sts ⟨fun ρ3 M3 => R ρ3 ∧ ∃ zs, DrA (N + per) zs ∧ Hld [(D', .lst zs)] M3, fun _ _ => False, fun _ _ => False, fun ρ3 M3 => R ρ3 ∧ ∃ zs, DrA (N + per) zs ∧ Hld [(D', .lst zs)] M3⟩)
    (fin : ∀ ρ' M', R ρ' → D.nx ρ' M')
    (hfs : ∀ x, foldedSetIterable (.ListComp elt [⟨.Name cn p1, .BinOp (.Subscript (.Name ("_law_script" : Str) p2) (.Slice none (some (.Constant (.int ci) j1 p3)) none p4) p5) .Add (.List [.Constant (.int 0) j2 p6] p7) p8, [], 0⟩] scope p9) X.env x = pure x := by intro _; rfl)
    (hfs2 : ∀ x, foldedSetIterable (.BinOp (.Subscript (.Name ("_law_script" : Str) p2) (.Slice none (some (.Constant (.int ci) j1 p3)) none p4) p5) .Add (.List [.Constant (.int 0) j2 p6] p7) p8) X.env x = pure x := by intro _; rfl)
    (hse : starEach [.Constant (.int 0) j2 p6] X.env = (false, eval (.Constant (.int 0) j2 p6) X.env) :: starEach [] X.env := by rfl) :
    GS X ρ M (.For (.Name tn p0) (.ListComp elt [⟨.Name cn p1, .BinOp (.Subscript (.Name ("_law_script" : Str) p2) (.Slice none (some (.Constant (.int ci) j1 p3)) none p4) p5) .Add (.List [.Constant (.int 0) j2 p6] p7) p8, [], 0⟩] scope p9) sts [] pos) D := by
  subst hci
  refine sfor hp hc (igmem ?_) hfs
  refine glc (.name i3) (own := [(cn, i3)]) hc hN ok ht (by intro j hj; simpa [Tg.ix] using hj) (iglist (gz (gcat ?_))) hfs2
  refine gslS (gv 0 h0 ?_ (hN := hN0) (hvis := hv0))
  change GE _ _ _ _ _
  refine gi ⟨(c : Int), rfl, addr, ns, rfl, hsc, fun l1 => ?_⟩
  have ecut : cutL (pints ns) none (some (c : Int)) = pints (cutL ns none (some (c : Int))) := by
    unfold cutL
    rw [pints_cut', pints_len']
  rw [ecut]
  generalize hcs : cutL ns none (some (c : Int)) = cs
  have lcs : cs.length ≤ c := by
    rw [← hcs]
    unfold cutL
    rw [List.length_take, HT.sIx_nat, HT.sIx_none]
    omega
  refine glst (acons (gi (anil ⟨le1, fun l2 => ⟨pints cs, pints [0], .mem (List.mem_cons_of_mem _ List.mem_cons_self), .mem List.mem_cons_self, ?_, fun l3 => ⟨l3, (cs ++ [0]).map .int, (l2, MO.lst [.pu (.int 0)]) :: (l1, MO.lst (pints cs)) :: M, rfl, ?_, _, rfl, ?_⟩⟩⟩)) hse)
  · rw [pints_len', pints_len']
    show cs.length + 1 ≤ 100000
    omega
  · rw [← pints_app', pints_pu']
  rw [List.length_map]
  have lcs1 : (cs ++ [0]).length ≤ c + 1 := by
    rw [List.length_append]
    show cs.length + 1 ≤ c + 1
    omega
  generalize (cs ++ [0]) = cz at lcs1
  let mk : Addr × List SD → Addr × MO := fun d => (d.1, .lst d.2)
  refine ⟨by omega, fun i acc M' => ∃ Ds : List (Addr × List SD), acc = Ds.reverse.map (fun d => SD.rf (.ref d.1)) ∧ Ds.length = i ∧ (∀ d ∈ Ds, DrA 0 d.2) ∧ ∃ Mz, M' = Ds.map mk ++ Mz, ⟨[], rfl, rfl, fun d hd => absurd hd List.not_mem_nil, _, rfl⟩, fun i acc M' hi _ h => ?_, fun acc M' hal h l => ?_⟩
  · obtain ⟨Ds, rfl, hD, hd, Mz, rfl⟩ := h
    rw [nth_map PyData.int 0 hi]
    refine ⟨_, rfl, fun Y hY => gts_nil (iteT fun Y2 hY2 => ?_)⟩
    refine hcall (cz.getD i 0) _ ?_ Y2 hY2 _ _ fun l xs hx => ⟨(l, xs) :: Ds, ?_, ?_, ?_, Mz, rfl⟩
    · have hwl : i3 < (wipeR ρ [i3]).length := by
        show i3 < (List.set ρ i3 SD.un).length
        rw [List.length_set]
        exact hw
      exact List.getElem?_set_self hwl
    · rw [List.reverse_cons, List.map_append]
      rfl
    · rw [List.length_cons, hD]
    · intro d hm
      rcases List.mem_cons.mp hm with e | hm
      · rw [e]
        exact hx
      · exact hd d hm
  obtain ⟨Ds, rfl, hD, hd, Mz, rfl⟩ := h
  refine ⟨l, _, _, rfl, rfl, ?_⟩
  have lenD : (Ds.reverse.map (fun d => SD.rf (.ref d.1))).length = cz.length := by rw [List.length_map, List.length_reverse, hD]
  rw [lenD]
  refine ⟨fun i ρ' M' => R ρ' ∧ ∃ Es : List (Addr × List SD), Es.map (·.1) = Ds.map (·.1) ∧ (∀ d ∈ Es, DrA (per * i) d.2) ∧ Hld (Es.map mk) M', ⟨hR, Ds, rfl, hd, Mz, .refl _⟩, fun i ρ' M' hi h => ?_, fun ρ' M' h => fin _ _ h.1⟩
  obtain ⟨hRi, Es, hE, hd', sub⟩ := h
  have hi2 : i < Ds.reverse.length := by rw [List.length_reverse, hD]; exact hi
  have item : (Ds.reverse.map (fun d => SD.rf (.ref d.1))).getD i .un = .rf (.ref (Ds.reverse[i]).1) := by
    rw [G.getD_at (by rw [List.length_map]; exact hi2), List.getElem_map]
  dsimp only
  rw [item]
  have inE : (Ds.reverse[i]).1 ∈ Es.map (·.1) := by
    rw [hE]
    exact List.mem_map_of_mem (List.mem_reverse.mp (List.getElem_mem hi2))
  generalize (Ds.reverse[i]).1 = D1 at inE
  obtain ⟨e, he, heD⟩ := List.mem_map.mp inE
  obtain ⟨E1, E2, hsplit⟩ := List.append_of_mem he
  obtain ⟨D', xs⟩ := e
  have heD : D' = D1 := heD
  subst heD
  subst hsplit
  refine tgname i1 (gbhld sub ?_) hN (hi := hi1) (hx := hl1) (hf := hf1)
  refine gbperm (M2 := [(D', .lst xs)] ++ (E1.map mk ++ E2.map mk)) ?_ ?_
  · rw [List.map_append]
    exact List.perm_middle
  have hx0 := hd' _ he
  have hlt : i + 1 ≤ c + 1 := by omega
  have hper : per * i + per ≤ (c + 1) * per := by
    have := Nat.mul_le_mul_right per hlt
    rw [Nat.succ_mul, Nat.mul_comm i per] at this
    exact this
  have next : ∀ (ρ3 : List SD) (M3 : Mem), (R ρ3 ∧ ∃ zs, DrA (per * i + per) zs ∧ Hld [(D', .lst zs)] M3) → R ρ3 ∧ ∃ Es' : List (Addr × List SD), Es'.map (·.1) = Ds.map (·.1) ∧ (∀ d ∈ Es', DrA (per * (i + 1)) d.2) ∧ Hld (Es'.map mk) (M3 ++ (E1.map mk ++ E2.map mk)) := by
    rintro ρ3 M3 ⟨r3, zs, hz, Mw, hold⟩
    refine ⟨r3, E1 ++ (D', zs) :: E2, ?_, ?_, Mw, ?_⟩
    · rw [← hE]
      simp
    · have ep : per * (i + 1) = per * i + per := Nat.mul_succ _ _
      intro d hm
      rcases List.mem_append.mp hm with h | h
      · exact dm _ _ _ (hd' d (List.mem_append_left _ h)) (by omega)
      · rcases List.mem_cons.mp h with e | h
        · rw [e, ep]
          exact hz
        · exact dm _ _ _ (hd' d (List.mem_append_right _ (List.mem_cons_of_mem _ h))) (by omega)
    · refine (List.Perm.append_right _ hold).trans ?_
      rw [List.map_append, List.append_assoc]
      have h1 : ((D', MO.lst zs) :: (Mw ++ (E1.map mk ++ E2.map mk))).Perm ((D', MO.lst zs) :: ((E1.map mk ++ E2.map mk) ++ Mw)) := List.Perm.cons _ List.perm_append_comm
      refine h1.trans ?_
      show ((D', MO.lst zs) :: ((E1.map mk ++ E2.map mk) ++ Mw)).Perm ((E1.map mk ++ ((D', MO.lst zs) :: E2.map mk)) ++ Mw)
      exact List.Perm.append_right Mw List.perm_middle.symm
  exact gbframe (body D' xs (per * i) ρ' hRi hper hx0) next (fun _ _ h => False.elim h) (fun _ _ h => False.elim h) next
end
end G

namespace G
/-! ### keys that part two tables -/
abbrev Alk (T : Tab) (n : Nat) (U : Tab) (m : Nat) (k : Int) : Prop := (run T n k).2 = (run U m k).2
def Part (T : Tab) (n : Nat) (U : Tab) (m : Nat) : Option Int → Prop
  | none => ∀ k, Alk T n U m k
  | some k => ¬ Alk T n U m k ∧ ∀ j, j < k → Alk T n U m j
abbrev InV (T U : Tab) (v : Int) : Prop := v ∈ T.flatten ∨ v ∈ U.flatten
theorem alk_prev {T U : Tab} {n m : Nat} {k : Int} (t : IsTab T n) (u : IsTab U m) (h1 : ¬ InV T U k) (h2 : ¬ InV T U (k - 1)) (h : ¬ Alk T n U m k) : ¬ Alk T n U m (k - 1) := by
  have e1 : run T n (k - 1) = run T n k := run_same t fun v hv => by
    have a : v ≠ k := fun e => h1 (.inl (e ▸ hv))
    have b : v ≠ k - 1 := fun e => h2 (.inl (e ▸ hv))
    exact ⟨by omega, b, a⟩
  have e2 : run U m (k - 1) = run U m k := run_same u fun v hv => by
    have a : v ≠ k := fun e => h1 (.inr (e ▸ hv))
    have b : v ≠ k - 1 := fun e => h2 (.inr (e ▸ hv))
    exact ⟨by omega, b, a⟩
  unfold Alk at *
  rw [e1, e2]
  exact h
theorem low_of : ∀ L : List Int, ∃ b, ∀ v ∈ L, b ≤ v
  | [] => ⟨0, fun v hv => absurd hv List.not_mem_nil⟩
  | x :: L => by
    obtain ⟨b, h⟩ := low_of L
    by_cases c : x ≤ b
    · exact ⟨x, fun v hv => by
        rcases List.mem_cons.mp hv with e | hv
        · omega
        · have := h v hv
          omega⟩
    · exact ⟨b, fun v hv => by
        rcases List.mem_cons.mp hv with e | hv
        · omega
        · exact h v hv⟩
theorem high_of : ∀ L : List Int, ∃ b, ∀ v ∈ L, v ≤ b
  | [] => ⟨0, fun v hv => absurd hv List.not_mem_nil⟩
  | x :: L => by
    obtain ⟨b, h⟩ := high_of L
    by_cases c : b ≤ x
    · exact ⟨x, fun v hv => by
        rcases List.mem_cons.mp hv with e | hv
        · omega
        · have := h v hv
          omega⟩
    · exact ⟨b, fun v hv => by
        rcases List.mem_cons.mp hv with e | hv
        · omega
        · exact h v hv⟩
theorem alk_in {T U : Tab} {n m : Nat} (t : IsTab T n) (u : IsTab U m) {k : Int} (h : ¬ Alk T n U m k) : ∃ j, j ≤ k ∧ ¬ Alk T n U m j ∧ (InV T U j ∨ InV T U (j - 1)) := by
  obtain ⟨b, hb⟩ := low_of (T.flatten ++ U.flatten)
  have key : ∀ (d : Nat) (k : Int), k - b ≤ d → ¬ Alk T n U m k → ∃ j, j ≤ k ∧ ¬ Alk T n U m j ∧ (InV T U j ∨ InV T U (j - 1)) := by
    intro d
    induction d with
    | zero =>
      intro k hk h
      by_cases h1 : InV T U k
      · exact ⟨k, Int.le_refl _, h, .inl h1⟩
      · refine absurd ?_ h
        have l1 : (run T n k).2 = ((0 : Int), (-1 : Int)) := run_low t fun v hv => by
          have := hb v (List.mem_append_left _ hv)
          have : v ≠ k := fun e => h1 (.inl (e ▸ hv))
          omega
        have l2 : (run U m k).2 = ((0 : Int), (-1 : Int)) := run_low u fun v hv => by
          have := hb v (List.mem_append_right _ hv)
          have : v ≠ k := fun e => h1 (.inr (e ▸ hv))
          omega
        exact l1.trans l2.symm
    | succ d ih =>
      intro k hk h
      by_cases h1 : InV T U k
      · exact ⟨k, Int.le_refl _, h, .inl h1⟩
      · by_cases h2 : InV T U (k - 1)
        · exact ⟨k, Int.le_refl _, h, .inr h2⟩
        · obtain ⟨j, j1, j2, j3⟩ := ih (k - 1) (by omega) (alk_prev t u h1 h2 h)
          exact ⟨j, by omega, j2, j3⟩
  exact key (k - b).toNat k (by omega) h
/-- a list of keys that holds all that could part -/
structure Cov (T U : Tab) (P : List Int) : Prop where
  up : P.Pairwise (· < ·)
  all : ∀ v, InV T U v → v ∈ P ∧ v + 1 ∈ P
theorem Cov.has {T U : Tab} {P : List Int} (c : Cov T U P) {j : Int} (h : InV T U j ∨ InV T U (j - 1)) : j ∈ P := by
  rcases h with h | h
  · exact (c.all j h).1
  · have := (c.all _ h).2
    rwa [show j - 1 + 1 = j by omega] at this
theorem part_none {T U : Tab} {n m : Nat} {P : List Int} (t : IsTab T n) (u : IsTab U m) (c : Cov T U P) (h : ∀ k ∈ P, Alk T n U m k) : Part T n U m none := fun k => Classical.byContradiction fun hk => by
  obtain ⟨j, _, h2, h3⟩ := alk_in t u hk
  exact h2 (h j (c.has h3))
theorem part_at {T U : Tab} {n m i : Nat} {P : List Int} (t : IsTab T n) (u : IsTab U m) (c : Cov T U P) (hi : i < P.length) (h : ∀ (i' : Nat) (h : i' < i), Alk T n U m (P[i']'(by omega))) (hk : ¬ Alk T n U m P[i]) : Part T n U m (some P[i]) := by
  refine ⟨hk, fun j hj => Classical.byContradiction fun hn => ?_⟩
  obtain ⟨x, x1, x2, x3⟩ := alk_in t u hn
  obtain ⟨y, hy, e⟩ := List.mem_iff_getElem.mp (c.has x3)
  have mono : ∀ {a b : Nat} (h : a < b) (hb : b < P.length), P[a]'(by omega) < P[b] := fun h hb => List.pairwise_iff_getElem.mp c.up _ _ _ _ h
  by_cases z : y < i
  · have := h y z
    rw [e] at this
    exact x2 this
  · by_cases z2 : y = i
    · subst z2
      omega
    · have := mono (a := i) (b := y) (by omega) hy
      omega
theorem part_uniq {T U : Tab} {n m : Nat} : ∀ {r r' : Option Int}, Part T n U m r → Part T n U m r' → r = r'
  | none, none, _, _ => rfl
  | none, some k, h, h' => absurd (h k) h'.1
  | some k, none, h, h' => absurd (h' k) h.1
  | some k, some k', h, h' => by
    rcases Int.lt_trichotomy k k' with c | c | c
    · exact absurd (h'.2 k c) h.1
    · rw [c]
    · exact absurd (h.2 k' c) h'.1
theorem part_symm {T U : Tab} {n m : Nat} : ∀ {r : Option Int}, Part T n U m r → Part U m T n r
  | none, h => fun k => (h k).symm
  | some k, h => ⟨fun e => h.1 e.symm, fun j hj => (h.2 j hj).symm⟩
theorem part_vals {T U : Tab} {n m : Nat} {k : Int} (t : IsTab T n) (u : IsTab U m) (h : Part T n U m (some k)) : InV T U k ∨ InV T U (k - 1) := by
  obtain ⟨j, h1, h2, h3⟩ := alk_in t u h.1
  by_cases e : j = k
  · rw [← e]
    exact h3
  · exact absurd (h.2 j (by omega)) h2
theorem part_size {T U : Tab} {n m : Nat} (t : IsTab T n) (u : IsTab U m) (h : Part T n U m none) : T.length = U.length ∧ n = m := by
  obtain ⟨b, hb⟩ := high_of (T.flatten ++ U.flatten)
  have l1 := run_high (k := b + 1) t fun v hv => by
    have := hb v (List.mem_append_left _ hv)
    omega
  have l2 := run_high (k := b + 1) u fun v hv => by
    have := hb v (List.mem_append_right _ hv)
    omega
  have e : (run T n (b + 1)).2 = (run U m (b + 1)).2 := h (b + 1)
  rw [l1, l2] at e
  have e1 := congrArg Prod.fst e
  have e2 := congrArg Prod.snd e
  dsimp only at e1 e2
  omega
theorem part_self (T : Tab) (n : Nat) : Part T n T n none := fun _ => rfl
theorem part_find {T U : Tab} {n m : Nat} {P : List Int} (t : IsTab T n) (u : IsTab U m) (c : Cov T U P) : Part T n U m (P.filter fun k => !decide (Alk T n U m k)).head? := by
  have key : ∀ (A B : List Int), P = A ++ B → (∀ k ∈ A, Alk T n U m k) → Part T n U m (B.filter fun k => !decide (Alk T n U m k)).head? := by
    intro A B
    induction B generalizing A with
    | nil =>
      intro e h
      rw [List.append_nil] at e
      subst e
      exact part_none t u c h
    | cons k B ih =>
      intro e h
      by_cases hk : Alk T n U m k
      · rw [List.filter_cons, if_neg (by rw [decide_eq_true hk]; decide)]
        exact ih (A ++ [k]) (by rw [e, List.append_assoc]; rfl) fun x hx => by
          rcases List.mem_append.mp hx with h2 | h2
          · exact h x h2
          · rw [List.mem_singleton.mp h2]
            exact hk
      · rw [List.filter_cons, if_pos (by rw [decide_eq_false hk]; rfl)]
        show Part T n U m (some k)
        subst e
        have hi : A.length < (A ++ k :: B).length := by simp
        have z := part_at (i := A.length) t u c hi (fun i' h2 => by
          rw [List.getElem_append_left h2]
          exact h _ (List.getElem_mem _)) (by simpa using hk)
        have e2 : (A ++ k :: B)[A.length] = k := by simp
        rwa [e2] at z
  exact key [] P rfl fun k hk => absurd hk List.not_mem_nil
theorem part_const {T U : Tab} {n m : Nat} {P : List Int} {r : Option Int} (t : IsTab T n) (u : IsTab U m) (h1 : P.Pairwise (· < ·)) (h2 : ∀ v ∈ T.flatten ++ U.flatten, v ∈ P ∧ v + 1 ∈ P) (h : Part T n U m r) : r = (P.filter fun k => !decide (Alk T n U m k)).head? :=
  part_uniq h (part_find t u ⟨h1, fun v hv => h2 v (List.mem_append.mpr hv)⟩)
end G

namespace G
open PySem PySem.Spec PyProof.Rows L2
/-- values of a drawn table -/
abbrev VS (B : Int) (ns : List Int) : Prop := ∀ v ∈ ns, -B ≤ v ∧ v ≤ B
theorem vs_row {B : Int} {T : Tab} (h : ∀ r ∈ T, ∀ v ∈ r, -B ≤ v ∧ v ≤ B) : VS B T.flatten := fun v hv => by
  obtain ⟨r, hr, hv⟩ := List.mem_flatten.mp hv
  exact h r hr v hv
theorem small_md' {n m : Nat} (h : 0 < m) : ∃ q : Nat, (1 : Int) + (n : Int) % (m : Int) = (q : Int) ∧ 0 < q ∧ q ≤ m := ⟨1 + n % m, by rw [Int.natCast_add, Int.natCast_emod]; rfl, by omega, by have := Nat.mod_lt n h; omega⟩
def oD : Option Int → PyData
  | none => .none
  | some v => .int v
def levT (T : Tab) (n : Nat) : Tab := (List.range T.length).map fun i => (List.range n).map (lev T n i)
theorem levT_is {T : Tab} {n : Nat} (t : IsTab T n) : IsTab (levT T n) n := ⟨by simp [levT, t.pos], by simp [levT, t.le], t.npos, t.nle, fun r hr => by
  obtain ⟨i, _, e⟩ := List.mem_map.mp hr
  rw [← e, List.length_map, List.length_range]⟩
theorem levT_len (T : Tab) (n : Nat) : (levT T n).length = T.length := by simp [levT]
theorem val_levT {T : Tab} {n i j : Nat} (hi : i < T.length) (hj : j < n) : val (levT T n) i j = lev T n i j := by
  unfold val levT
  simp [List.getD_eq_getElem?_getD, hi, hj]
theorem tab_ext {A B : Tab} {n : Nat} (a : ∀ r ∈ A, r.length = n) (b : ∀ r ∈ B, r.length = n) (h : A.length = B.length) (hv : ∀ i j, i < A.length → j < n → val A i j = val B i j) : A = B := by
  refine List.ext_getElem h fun i h1 h2 => ?_
  have l1 := a _ (List.getElem_mem h1)
  have l2 := b _ (List.getElem_mem h2)
  refine List.ext_getElem (by rw [l1, l2]) fun j g1 g2 => ?_
  have := hv i j h1 (by omega)
  unfold val at this
  simpa [List.getD_eq_getElem?_getD, h1, h2, g1, g2] using this
theorem val_put {A B : Tab} {r : List Int} {j : Nat} (v : Int) (hj : j < r.length) (i' j' : Nat) : val (A ++ r.set j v :: B) i' j' = if i' = A.length ∧ j' = j then v else val (A ++ r :: B) i' j' := by
  unfold val
  simp only [List.getD_eq_getElem?_getD]
  rcases Nat.lt_trichotomy i' A.length with h | h | h
  · rw [List.getElem?_append_left h, List.getElem?_append_left h, if_neg (by omega)]
  · subst h
    rw [List.getElem?_append_right (Nat.le_refl _), List.getElem?_append_right (Nat.le_refl _), Nat.sub_self]
    simp only [List.getElem?_cons_zero, Option.getD_some, List.getElem?_set]
    by_cases e : j' = j
    · subst e
      simp [hj]
    · rw [if_neg (fun z => e z.symm), if_neg (fun z => e z.2)]
  · rw [List.getElem?_append_right (by omega), List.getElem?_append_right (by omega), if_neg (by omega)]
    obtain ⟨d, e⟩ : ∃ d, i' - A.length = d + 1 := ⟨i' - A.length - 1, by omega⟩
    rw [e]
    rfl
/-- the bounds of a place as the program gives them -/
def bOf (lo hi : Option Int) : PyData := if lo.isSome = true ∧ lo = hi then .none else .tuple [oD lo, oD hi]
abbrev bAt (T : Tab) (n i j : Nat) : PyData := bOf (loB T n i j) (hiB T n i j)
theorem fm2_flat (R : Tab) : fm2 R.length (fun i => (R.getD i []).length) (fun _ _ => true) (fun i j => SD.pu (.int ((R.getD i []).getD j 0))) = (R.flatten.map PyData.int).map SD.pu := by
  unfold fm2
  have h : ∀ m, m ≤ R.length → ((List.range m).flatMap fun i => fm (R.getD i []).length (fun _ => true) (fun j => SD.pu (.int ((R.getD i []).getD j 0)))) = ((R.take m).flatten.map PyData.int).map SD.pu := by
    intro m
    induction m with
    | zero => intro _; rfl
    | succ m ih =>
      intro hm
      have e : R.take (m + 1) = R.take m ++ [R[m]] := by rw [List.take_add_one, List.getElem?_eq_getElem hm]; rfl
      rw [List.range_succ, List.flatMap_append, ih (by omega), e, List.flatten_append, List.map_append, List.map_append]
      congr 1
      show (fm _ _ _ ++ []) = _
      rw [List.append_nil, fm_all, range_map (R.getD m []) 0 (fun v => SD.pu (.int v)), G.getD_at hm, List.flatten_singleton, List.map_map]
      rfl
  have z := h R.length (Nat.le_refl _)
  rwa [List.take_length] at z
theorem mem2_two (V : List Int) (k : Int) : k ∈ mem2 V.length (fun _ => 2) (fun _ _ => true) (fun i j => V.getD i 0 + (j : Int)) ↔ k ∈ V ∨ k - 1 ∈ V := by
  unfold mem2
  constructor
  · intro h
    obtain ⟨i, hi, h⟩ := List.mem_flatMap.mp h
    obtain ⟨j, hj, e⟩ := List.mem_map.mp h
    have hi := List.mem_range.mp hi
    have hj := List.mem_range.mp (List.mem_filter.mp hj).1
    have hj : j < 2 := hj
    have e : V.getD i 0 + (j : Int) = k := e
    rw [G.getD_at hi] at e
    obtain rfl | rfl : j = 0 ∨ j = 1 := by omega
    · exact .inl (by rw [← e]; simpa using List.getElem_mem hi)
    · exact .inr (by rw [← e]; simpa using List.getElem_mem hi)
  · rintro (h | h)
    · obtain ⟨i, hi, e⟩ := List.mem_iff_getElem.mp h
      refine List.mem_flatMap.mpr ⟨i, List.mem_range.mpr hi, List.mem_map.mpr ⟨0, List.mem_filter.mpr ⟨List.mem_range.mpr (show 0 < 2 by decide), rfl⟩, ?_⟩⟩
      show V.getD i 0 + ((0 : Nat) : Int) = k
      rw [G.getD_at hi, e]
      simp
    · obtain ⟨i, hi, e⟩ := List.mem_iff_getElem.mp h
      refine List.mem_flatMap.mpr ⟨i, List.mem_range.mpr hi, List.mem_map.mpr ⟨1, List.mem_filter.mpr ⟨List.mem_range.mpr (show 1 < 2 by decide), rfl⟩, ?_⟩⟩
      show V.getD i 0 + ((1 : Nat) : Int) = k
      rw [G.getD_at hi, e]
      show k - 1 + ((1 : Nat) : Int) = k
      omega
section
variable {X : Cx} {ρ : List SD} {M : Mem} {Q : Kn} {e : Expr}
/-- a new list is frozen, some of the others stay -/
theorem gzs (h : GE X ρ M e fun r M' => ∃ l xs ds M2 M3, r = .rf (.ref l) ∧ M' = (l, .lst xs) :: M2 ∧ xs = ds.map .pu ∧ List.Sublist M3 M2 ∧ Q (.pu (.list ds)) M3) : GE X ρ M e Q :=
  gf (gz (h.mono fun r M' ⟨l, xs, ds, M2, M3, e1, e2, e3, e4, q⟩ => ⟨l, ds, M2, e1, by rw [e2, e3], M3, e4, q⟩))
end
theorem three_flat : ∀ L : List Int, ∃ S : List Int, (L.map (fun v => pints [v - 1, v, v + 1])).flatten = pints S ∧ S.length = 3 * L.length ∧ ∀ v ∈ L, v ∈ S ∧ v + 1 ∈ S
  | [] => ⟨[], rfl, rfl, fun v hv => absurd hv List.not_mem_nil⟩
  | v :: L => by
    obtain ⟨S, e, l, h⟩ := three_flat L
    refine ⟨[v - 1, v, v + 1] ++ S, ?_, ?_, fun u hu => ?_⟩
    · rw [List.map_cons, List.flatten_cons, e]
      show _ = List.map _ (_ ++ _)
      rw [List.map_append]
    · rw [List.length_append, l]
      show 3 + 3 * L.length = 3 * (L.length + 1)
      omega
    · rcases List.mem_cons.mp hu with z | z
      · rw [z]
        exact ⟨by simp, by simp⟩
      · exact ⟨List.mem_append_right _ (h u z).1, List.mem_append_right _ (h u z).2⟩
theorem lv_three : ∀ (L : List Int) (M : Mem), Paired (LV M) (L.map (fun v => SD.pu (.list ([v - 1, v, v + 1].map .int)))) (L.map (fun v => pints [v - 1, v, v + 1]))
  | [], M => .nil
  | v :: L, M => .cons (show LV M (.pu (.list ([v - 1, v, v + 1].map .int))) (pints [v - 1, v, v + 1]) from lv_ints _) (lv_three L M)
theorem any_pl (L : List (Nat × Nat)) (p : Nat × Nat) : ((L.map plD).any fun z => PyData.eqv z (plD p)) = decide (p ∈ L) := by
  induction L with
  | nil => rfl
  | cons q L ih =>
    rw [List.map_cons, List.any_cons, ih, eqv_pl]
    have e : (((q.1 : Int), (q.2 : Int)) = ((p.1 : Int), (p.2 : Int))) ↔ p = q := by
      constructor
      · intro h
        injection h with h1 h2
        exact Prod.ext (by omega) (by omega)
      · intro h
        rw [h]
    by_cases h : p = q
    · simp [h]
    · have : ¬ (((q.1 : Int), (q.2 : Int)) = ((p.1 : Int), (p.2 : Int))) := fun z => h (e.mp z)
      simp [h, this]
theorem any_true (L : List Bool) : ((L.map PyData.bool).any fun z => PyData.eqv z (.bool true)) = L.any id := by
  induction L with
  | nil => rfl
  | cons b L ih =>
    rw [List.map_cons, List.any_cons, List.any_cons, ih]
    cases b <;> rfl
theorem shaped_bools (L : List Bool) : SeqAt.shaped (.list (L.map .bool)) = true := by
  have h : PyData.canLayAll0 (L.map .bool) = true ∧ PyData.depthAll (L.map .bool) ≤ 1 := by
    induction L with
    | nil => exact ⟨rfl, Nat.zero_le _⟩
    | cons p L ih => exact ⟨by simp [PyData.canLayAll0, PyData.canLay0, ih.1], by simp only [List.map_cons, PyData.depthAll, PyData.depth]; have := ih.2; omega⟩
  exact shaped_of 1 (by decide) h.1 h.2
theorem shaped_bOf (lo hi : Option Int) : SeqAt.shaped (bOf lo hi) = true := by
  unfold bOf
  split
  · rfl
  · cases lo <;> cases hi <;> rfl
theorem bOf_apart (lo hi : Option Int) (x : Str) : PyData.eqv (bOf lo hi) (.str x) = false := by
  unfold bOf
  split
  · rfl
  · rfl
theorem gd_bOf {lo hi : Option Int} (h1 : ∀ a, lo = some a → IB a) (h2 : ∀ a, hi = some a → IB a) : Gd 1 402 (bOf lo hi) := by
  have o : ∀ {x : Option Int}, (∀ a, x = some a → IB a) → Gd 0 200 (oD x) := fun {x} h => by
    cases x with
    | none => exact gd_none
    | some a => exact gd_int (h a rfl)
  unfold bOf
  split
  · exact gd_none.up (by decide) (by decide)
  · exact gd_tuple (k := 0) (w := 200) (n := 2) (fun d hd => by
      rcases List.mem_cons.mp hd with e | hd
      · rw [e]; exact o h1
      · rw [List.mem_singleton.mp hd]; exact o h2) (Nat.le_refl 2)
theorem bOf_non {lo hi : Option Int} : dNon (bOf lo hi) = decide (lo.isSome = true ∧ lo = hi) := by
  unfold bOf
  split
  · next h => exact (decide_eq_true h).symm
  · next h => exact (decide_eq_false h).symm
/-- the told numbers of a gap and the bounds -/
theorem due_bounds {T : Tab} {n i j p q : Nat} {V : List Int} (up : V.Pairwise (· < ·)) (hj : j < n) (hp : p ≤ V.length) (hq : q ≤ V.length) (h1 : loB T n i j = (if 0 < p then some (V.getD (p - 1) 0) else none)) (h2 : hiB T n i j = (if q < V.length then some (V.getD q 0) else none)) :
    (p ≤ q ↔ ¬ ((loB T n i j).isSome = true ∧ loB T n i j = hiB T n i j)) := by
  have mono : ∀ {a c : Nat} (h : a < c) (hc : c < V.length), V.getD a 0 < V.getD c 0 := fun {a c} h hc => by
    rw [G.getD_at (show a < V.length by omega), G.getD_at hc]
    exact List.pairwise_iff_getElem.mp up _ _ _ _ h
  constructor
  · rintro hpq ⟨a, b⟩
    rw [h1] at a b
    rw [h2] at b
    by_cases hp0 : 0 < p
    · rw [if_pos hp0] at b
      by_cases hq0 : q < V.length
      · rw [if_pos hq0] at b
        have := mono (a := p - 1) (c := q) (by omega) hq0
        injection b with b
        omega
      · rw [if_neg hq0] at b
        cases b
    · rw [if_neg hp0] at a
      cases a
  · intro hn
    refine Classical.byContradiction fun hpq => hn ?_
    have hp0 : 0 < p := by omega
    have hq0 : q < V.length := by omega
    rw [if_pos hp0] at h1
    rw [if_pos hq0] at h2
    refine ⟨by rw [h1]; rfl, ?_⟩
    rw [h1, h2]
    congr 1
    have l0 : 0 < i := by
      refine Classical.byContradiction fun z => ?_
      have : i = 0 := by omega
      subst this
      rw [lo_zero] at h1
      cases h1
    have l1 : j + 1 < n := by
      refine Classical.byContradiction fun z => ?_
      unfold hiB at h2
      rw [if_neg z] at h2
      cases h2
    have e1 : loB T n i j = some (lev T n (i - 1) j) := by unfold loB; rw [if_pos l0]
    have e2 := hi_some T (i := i) l1
    rw [e1] at h1
    rw [e2] at h2
    injection h1 with h1
    injection h2 with h2
    have g1 := lev_right T l1 (i - 1)
    have g2 := lev_down T (i := i - 1) l1
    rw [show i - 1 + 1 = i by omega] at g2
    by_cases e : p - 1 = q
    · rw [e]
    · have := mono (a := q) (c := p - 1) (by omega) (by omega)
      omega
end G

namespace G
open PySem PySem.Spec PyProof.Rows L2
/-! ### the levels are searched as the table -/
theorem go_levT {T : Tab} {n : Nat} {k : Int} : ∀ (f i c : Nat), c ≤ n → (i < T.length → 0 < c → Btw T n k i (c - 1)) → go (levT T n) k f i c = go T k f i c
  | 0, i, c, _, _ => rfl
  | f + 1, i, c, hc, hb => by
    by_cases h : i < T.length ∧ 0 < c
    · obtain ⟨h1, h2⟩ := h
      have b := hb h1 h2
      have hj : c - 1 < n := by omega
      have h1' : i < (levT T n).length := by rw [levT_len]; exact h1
      have e : val (levT T n) i (c - 1) = lev T n i (c - 1) := val_levT h1 hj
      have l1 := b.lt hj
      have l2 := b.gt hj
      rcases Int.lt_trichotomy (val T i (c - 1)) k with hv | hv | hv
      · rw [go_lt h1 h2 hv, go_lt h1' h2 (by rw [e]; exact l1.mpr hv), go_levT f (i + 1) c hc (fun _ _ => b.down hj hv)]
      · rw [go_eq h1 h2 hv, go_eq h1' h2 (by rw [e]; omega)]
      · rw [go_gt h1 h2 hv, go_gt h1' h2 (by rw [e]; exact l2.mpr hv), go_levT f i (c - 1) (by omega) (fun _ h3 => ?_)]
        obtain ⟨d, rfl⟩ : ∃ d, c = d + 2 := ⟨c - 2, by omega⟩
        exact Btw.left (j := d) b hj hv
    · rw [go_out h, go_out (by rw [levT_len]; exact h)]
theorem run_levT {T : Tab} {n : Nat} (t : IsTab T n) (k : Int) : run (levT T n) n k = run T n k := by
  unfold run
  rw [levT_len]
  refine go_levT _ 0 n (Nat.le_refl _) fun _ _ => ⟨fun a ha => ?_, fun a ha => ?_⟩
  · rw [lo_zero] at ha
    cases ha
  · have := t.npos
    unfold hiB at ha
    rw [if_neg (by omega)] at ha
    cases ha
theorem alk_lev {T U : Tab} {n : Nat} (t : IsTab T n) (u : IsTab U n) (h : levT T n = levT U n) (k : Int) : run T n k = run U n k := by
  rw [← run_levT t, ← run_levT u, h]
/-! ### one value changed -/
def setT (T : Tab) (i j : Nat) (x : Int) : Tab := T.set i ((T.getD i []).set j x)
theorem setT_len (T : Tab) (i j : Nat) (x : Int) : (setT T i j x).length = T.length := by simp [setT]
theorem setT_is {T : Tab} {n i j : Nat} {x : Int} (t : IsTab T n) (hi : i < T.length) : IsTab (setT T i j x) n := ⟨by rw [setT_len]; exact t.pos, by rw [setT_len]; exact t.le, t.npos, t.nle, fun r hr => by
  rcases List.mem_or_eq_of_mem_set hr with h | h
  · exact t.rows r h
  · rw [h, List.length_set, G.getD_at hi]
    exact t.row hi⟩
theorem val_setT {T : Tab} {n i j : Nat} {x : Int} (t : IsTab T n) (hi : i < T.length) (hj : j < n) (i' j' : Nat) : val (setT T i j x) i' j' = if i' = i ∧ j' = j then x else val T i' j' := by
  unfold val setT
  have hr := t.row hi
  simp only [List.getD_eq_getElem?_getD, List.getElem?_set, List.getElem?_eq_getElem hi, Option.getD_some]
  by_cases e : i = i'
  · subst e
    rw [if_pos rfl, if_pos hi]
    by_cases e2 : j = j'
    · subst e2
      simp [hi, hr, hj]
    · simp only [Option.getD_some, List.getElem?_set]
      rw [if_neg e2, if_neg (fun z => e2 z.2.symm)]
      simp [hi]
  · rw [if_neg e, if_neg (fun z => e z.1.symm)]
theorem lev_congr {A B : Tab} {n : Nat} : ∀ (s i j : Nat), i + (n - 1 - j) ≤ s → j < n → (∀ i' j', i' ≤ i → j ≤ j' → j' < n → val A i' j' = val B i' j') → lev A n i j = lev B n i j := by
  intro s
  induction s with
  | zero =>
    intro i j hs hj h
    have h0 : i = 0 := by omega
    subst h0
    rw [lev_eq A hj, lev_eq B hj, lo_zero, lo_zero, h 0 j (Nat.le_refl _) (Nat.le_refl _) hj]
    unfold hiB
    rw [if_neg (by omega), if_neg (by omega)]
  | succ s ih =>
    intro i j hs hj h
    have e1 : loB A n i j = loB B n i j := by
      cases i with
      | zero => rw [lo_zero, lo_zero]
      | succ i =>
        rw [lo_succ, lo_succ, ih i j (by omega) hj fun i' j' h1 h2 h3 => h i' j' (by omega) h2 h3]
    have e2 : hiB A n i j = hiB B n i j := by
      by_cases hj2 : j + 1 < n
      · rw [hi_some A hj2, hi_some B hj2, ih i (j + 1) (by omega) hj2 fun i' j' h1 h2 h3 => h i' j' h1 (by omega) h3]
      · unfold hiB
        rw [if_neg hj2, if_neg hj2]
    rw [lev_eq A hj, lev_eq B hj, e1, e2, h i j (Nat.le_refl _) (Nat.le_refl _) hj]
theorem lo_congr {A B : Tab} {n i j : Nat} (hj : j < n) (h : ∀ i' j', ¬ (i' = i ∧ j' = j) → val A i' j' = val B i' j') : loB A n i j = loB B n i j := by
  cases i with
  | zero => rw [lo_zero, lo_zero]
  | succ i => rw [lo_succ, lo_succ, lev_congr _ i j (Nat.le_refl _) hj fun i' j' h1 h2 h3 => h i' j' (by omega)]
theorem hi_congr {A B : Tab} {n i j : Nat} (h : ∀ i' j', ¬ (i' = i ∧ j' = j) → val A i' j' = val B i' j') : hiB A n i j = hiB B n i j := by
  by_cases hj2 : j + 1 < n
  · rw [hi_some A hj2, hi_some B hj2, lev_congr _ i (j + 1) (Nat.le_refl _) hj2 fun i' j' h1 h2 h3 => h i' j' (by omega)]
  · unfold hiB
    rw [if_neg hj2, if_neg hj2]
theorem lev_all {A B : Tab} {n i j : Nat} (h : ∀ i' j', ¬ (i' = i ∧ j' = j) → val A i' j' = val B i' j') (e : lev A n i j = lev B n i j) : ∀ (s i' j' : Nat), i' + (n - 1 - j') ≤ s → j' < n → lev A n i' j' = lev B n i' j' := by
  intro s
  induction s with
  | zero =>
    intro i' j' hs hj
    have h0 : i' = 0 := by omega
    subst h0
    by_cases z : 0 = i ∧ j' = j
    · obtain ⟨rfl, rfl⟩ := z
      exact e
    · rw [lev_eq A hj, lev_eq B hj, lo_zero, lo_zero, h 0 j' z]
      unfold hiB
      rw [if_neg (by omega), if_neg (by omega)]
  | succ s ih =>
    intro i' j' hs hj
    by_cases z : i' = i ∧ j' = j
    · obtain ⟨rfl, rfl⟩ := z
      exact e
    have e1 : loB A n i' j' = loB B n i' j' := by
      cases i' with
      | zero => rw [lo_zero, lo_zero]
      | succ i' => rw [lo_succ, lo_succ, ih i' j' (by omega) hj]
    have e2 : hiB A n i' j' = hiB B n i' j' := by
      by_cases hj2 : j' + 1 < n
      · rw [hi_some A hj2, hi_some B hj2, ih i' (j' + 1) (by omega) hj2]
      · unfold hiB
        rw [if_neg hj2, if_neg hj2]
    rw [lev_eq A hj, lev_eq B hj, e1, e2, h i' j' z]
theorem levT_set {T : Tab} {n i j : Nat} {x : Int} (t : IsTab T n) (hi : i < T.length) (hj : j < n) : levT T n = levT (setT T i j x) n ↔ mid (val T i j) (loB T n i j) (hiB T n i j) = mid x (loB T n i j) (hiB T n i j) := by
  have hv : ∀ i' j', ¬ (i' = i ∧ j' = j) → val T i' j' = val (setT T i j x) i' j' := fun i' j' h => by rw [val_setT t hi hj, if_neg h]
  have u := setT_is (j := j) (x := x) t hi
  have e2 : lev (setT T i j x) n i j = mid x (loB T n i j) (hiB T n i j) := by rw [lev_eq _ hj, val_setT t hi hj, if_pos ⟨rfl, rfl⟩, ← lo_congr hj hv, ← hi_congr hv]
  constructor
  · intro h
    have z := congrArg (fun A => val A i j) h
    have z : val (levT T n) i j = val (levT (setT T i j x) n) i j := z
    rw [val_levT hi hj, val_levT (by rw [setT_len]; exact hi) hj, lev_eq T hj, e2] at z
    exact z
  · intro h
    refine tab_ext (levT_is t).rows (levT_is u).rows (by rw [levT_len, levT_len, setT_len]) fun i' j' h1 h2 => ?_
    rw [levT_len] at h1
    rw [val_levT h1 h2, val_levT (by rw [setT_len]; exact h1) h2]
    exact lev_all hv (by rw [lev_eq T hj, e2]; exact h) _ i' j' (Nat.le_refl _) h2
theorem lo_le_hi {T : Tab} {n i j : Nat} {a c : Int} (hj : j < n) (h1 : loB T n i j = some a) (h2 : hiB T n i j = some c) : a ≤ c := by
  cases i with
  | zero => rw [lo_zero] at h1; cases h1
  | succ i =>
    by_cases hj2 : j + 1 < n
    · rw [lo_succ] at h1
      rw [hi_some T hj2] at h2
      have a1 := lev_right T hj2 i
      have a2 := lev_down T hj2 (i := i)
      cases h1
      cases h2
      omega
    · unfold hiB at h2
      rw [if_neg hj2] at h2
      cases h2
/-- whether the levels stay -/
def loLe (v x : Int) : Option Int → Bool
  | none => false
  | some a => decide (v ≤ a ∧ x ≤ a)
def hiGe (v x : Int) : Option Int → Bool
  | none => false
  | some c => decide (c ≤ v ∧ c ≤ x)
def stB (lo hi : Option Int) (v x : Int) : Bool := decide (lo.isSome = true ∧ lo = hi) || decide (v = x) || loLe v x lo || hiGe v x hi
theorem mid_stB {lo hi : Option Int} {v x : Int} (h : ∀ a c, lo = some a → hi = some c → a ≤ c) : mid v lo hi = mid x lo hi ↔ stB lo hi v x = true := by
  unfold mid stB midL midH loLe hiGe
  cases lo with
  | none =>
    cases hi with
    | none => simp
    | some c =>
      simp only [Option.isSome_none, Bool.false_eq_true, false_and, decide_false, Bool.false_or, Bool.or_false, Bool.or_eq_true, decide_eq_true_eq]
      split <;> split <;> omega
  | some a =>
    cases hi with
    | none =>
      simp only [Option.isSome_some, true_and, reduceCtorEq, decide_false, Bool.false_or, Bool.or_false, Bool.or_eq_true, decide_eq_true_eq]
      split <;> split <;> omega
    | some c =>
      have := h a c rfl rfl
      simp only [Option.isSome_some, true_and, Option.some.injEq, Bool.or_eq_true, decide_eq_true_eq]
      split <;> split <;> (try split) <;> (try split) <;> omega
theorem mid_mid {lo hi : Option Int} {v : Int} (h : ∀ a c, lo = some a → hi = some c → a ≤ c) : mid (mid v lo hi) lo hi = mid v lo hi := by
  unfold mid midL midH
  cases lo with
  | none =>
    cases hi with
    | none => rfl
    | some c =>
      dsimp only
      repeat' split
      all_goals omega
  | some a =>
    cases hi with
    | none =>
      dsimp only
      repeat' split
      all_goals omega
    | some c =>
      have := h a c rfl rfl
      dsimp only
      repeat' split
      all_goals omega
theorem lev_lev {T : Tab} {n : Nat} (t : IsTab T n) : ∀ (s i j : Nat), i + (n - 1 - j) ≤ s → i < T.length → j < n → lev (levT T n) n i j = lev T n i j := by
  intro s
  induction s with
  | zero =>
    intro i j hs hi hj
    have h0 : i = 0 := by omega
    subst h0
    have e : hiB (levT T n) n 0 j = hiB T n 0 j := by
      unfold hiB
      rw [if_neg (by omega), if_neg (by omega)]
    rw [lev_eq _ hj, e, lo_zero, val_levT hi hj, lev_eq T hj, lo_zero]
    exact mid_mid fun a c h => by cases h
  | succ s ih =>
    intro i j hs hi hj
    have e1 : loB (levT T n) n i j = loB T n i j := by
      cases i with
      | zero => rw [lo_zero, lo_zero]
      | succ i => rw [lo_succ, lo_succ, ih i j (by omega) (by omega) hj]
    have e2 : hiB (levT T n) n i j = hiB T n i j := by
      by_cases hj2 : j + 1 < n
      · rw [hi_some _ hj2, hi_some T hj2, ih i (j + 1) (by omega) hi hj2]
      · unfold hiB
        rw [if_neg hj2, if_neg hj2]
    rw [lev_eq _ hj, e1, e2, val_levT hi hj, lev_eq T hj]
    exact mid_mid fun a c => lo_le_hi hj
theorem levT_levT {T : Tab} {n : Nat} (t : IsTab T n) : levT (levT T n) n = levT T n := by
  have t' := levT_is t
  refine tab_ext (levT_is t').rows t'.rows (by rw [levT_len]) fun i j h1 h2 => ?_
  rw [levT_len, levT_len] at h1
  rw [val_levT h1 h2, val_levT (by rw [levT_len]; exact h1) h2]
  exact lev_lev t _ i j (Nat.le_refl _) h1 h2
/-! ### where a search ends within the table, there stands its key -/
theorem go_end_val {T : Tab} {k : Int} {x y : Nat} : ∀ (f i c : Nat), (T.length - i) + c ≤ f → i ≤ T.length → (go T k f i c).2 = ((x : Int), (y : Int)) → x < T.length → val T x y = k
  | 0, i, c, hf, hi, h, hx => by
    have h : ((i : Int), (c : Int) - 1) = ((x : Int), (y : Int)) := h
    injection h with h1 h2
    omega
  | f + 1, i, c, hf, hi, h, hx => by
    by_cases hb : i < T.length ∧ 0 < c
    · obtain ⟨h1, h2⟩ := hb
      rcases Int.lt_trichotomy (val T i (c - 1)) k with hv | hv | hv
      · rw [go_lt h1 h2 hv] at h
        exact go_end_val f (i + 1) c (by omega) (by omega) h hx
      · rw [go_eq h1 h2 hv] at h
        have h : ((i : Int), (c : Int) - 1) = ((x : Int), (y : Int)) := h
        injection h with g1 g2
        have e1 : i = x := by omega
        have e2 : c - 1 = y := by omega
        rw [← e1, ← e2]
        exact hv
      · rw [go_gt h1 h2 hv] at h
        exact go_end_val f i (c - 1) (by omega) hi h hx
    · rw [go_out hb] at h
      have h : ((i : Int), (c : Int) - 1) = ((x : Int), (y : Int)) := h
      injection h with g1 g2
      exact absurd ⟨by omega, by omega⟩ hb
theorem run_end_val {T : Tab} {n : Nat} {k : Int} {x y : Nat} (h : (run T n k).2 = ((x : Int), (y : Int))) (hx : x < T.length) : val T x y = k := go_end_val _ 0 n (by omega) (Nat.zero_le _) h hx
/-- a found value that is changed parts the tables, at it or before -/
theorem part_found {T : Tab} {n i j : Nat} {x : Int} {r : Option Int} (t : IsTab T n) (hi : i < T.length) (hj : j < n) (hf : isF T n i j = true) (hx : val T i j ≠ x) (h : Part T n (setT T i j x) n r) : ∃ k, r = some k ∧ k ≤ val T i j := by
  have hn : ¬ Alk T n (setT T i j x) n (val T i j) := fun z => by
    have z : (run T n (val T i j)).2 = (run (setT T i j x) n (val T i j)).2 := z
    rw [of_decide_eq_true hf] at z
    have e := run_end_val z.symm (by rw [setT_len]; exact hi)
    rw [val_setT t hi hj, if_pos ⟨rfl, rfl⟩] at e
    exact hx e.symm
  cases r with
  | none => exact absurd (h _) hn
  | some k =>
    refine ⟨k, rfl, ?_⟩
    rcases Int.lt_or_le (val T i j) k with z | z
    · exact absurd (h.2 _ z) hn
    · exact z
theorem part_lev {T U : Tab} {n : Nat} {r : Option Int} (t : IsTab T n) (u : IsTab U n) (h : levT T n = levT U n) (hp : Part T n U n r) : r = none := part_uniq hp (fun k => by show (run T n k).2 = (run U n k).2; rw [alk_lev t u h k])
end G

namespace G
open PySem PySem.Spec PyProof.Rows L2
/-! ### the ways through the levels -/
theorem go_hd (A : Tab) (k : Int) : ∀ (f i c : Nat), go A k f i c = ([], ((i : Int), (c : Int) - 1)) ∨ (0 < c ∧ ∃ L e, go A k f i c = ((i, c - 1) :: L, e))
  | 0, i, c => .inl rfl
  | f + 1, i, c => by
    by_cases h : i < A.length ∧ 0 < c
    · obtain ⟨h1, h2⟩ := h
      rcases Int.lt_trichotomy (val A i (c - 1)) k with hv | hv | hv
      · exact .inr ⟨h2, _, _, go_lt h1 h2 hv⟩
      · exact .inr ⟨h2, _, _, go_eq h1 h2 hv⟩
      · exact .inr ⟨h2, _, _, go_gt h1 h2 hv⟩
    · exact .inl (go_out h _)
theorem hd_12 {A : Tab} {k : Int} {f i c : Nat} (h : go A k f (i + 1) c = ([], ((i : Int), (c : Int) - 1))) : False := by
  rcases go_hd A k f (i + 1) c with e | ⟨_, L, x, e⟩
  · rw [e] at h
    injection h with _ h
    injection h with h _
    omega
  · rw [e] at h
    injection h with h _
    cases h
theorem hd_23 {A : Tab} {k : Int} {f i c : Nat} (hc : 0 < c) (h : go A k f i (c - 1) = ([], ((i : Int), (c : Int) - 1))) : False := by
  rcases go_hd A k f i (c - 1) with e | ⟨_, L, x, e⟩
  · rw [e] at h
    injection h with _ h
    injection h with _ h
    omega
  · rw [e] at h
    injection h with h _
    cases h
theorem hd_13 {A B : Tab} {k k' : Int} {f i c : Nat} (hc : 0 < c) (h : go A k f (i + 1) c = go B k' f i (c - 1)) : False := by
  rcases go_hd A k f (i + 1) c with e | ⟨_, L, x, e⟩ <;> rcases go_hd B k' f i (c - 1) with e' | ⟨_, L', x', e'⟩ <;> rw [e, e'] at h
  · injection h with _ h
    injection h with h _
    omega
  · injection h with h _
    cases h
  · injection h with h _
    cases h
  · injection h with h _
    injection h with h _
    injection h with h _
    omega
theorem tl_eq {x : Nat × Nat} {A B : List (Nat × Nat) × (Int × Int)} (h : (x :: A.1, A.2) = (x :: B.1, B.2)) : A = B := by
  injection h with h1 h2
  injection h1 with _ h1
  exact Prod.ext h1 h2
theorem tl_eq1 {x : Nat × Nat} {A : List (Nat × Nat) × (Int × Int)} {b : Int × Int} (h : (x :: A.1, A.2) = ([x], b)) : A = ([], b) := by
  injection h with h1 h2
  injection h1 with _ h1
  exact Prod.ext h1 h2
/-- the same way: the same turns -/
theorem go_dir {T U : Tab} {k k' : Int} (hl : T.length = U.length) : ∀ (f i c : Nat), go T k f i c = go U k' f i c → ∀ p ∈ (go T k f i c).1, (val T p.1 p.2 < k ↔ val U p.1 p.2 < k')
  | 0, i, c, e, p, hp => absurd hp List.not_mem_nil
  | f + 1, i, c, e, p, hp => by
    by_cases h1 : i < T.length ∧ 0 < c
    · obtain ⟨h1, h2⟩ := h1
      have h1' : i < U.length := by omega
      rcases Int.lt_trichotomy (val T i (c - 1)) k with hv | hv | hv
      · rcases Int.lt_trichotomy (val U i (c - 1)) k' with hw | hw | hw
        · rw [go_lt h1 h2 hv] at hp
          rw [go_lt h1 h2 hv, go_lt h1' h2 hw] at e
          rcases List.mem_cons.mp hp with z | z
          · rw [z]
            exact ⟨fun _ => hw, fun _ => hv⟩
          · exact go_dir hl f (i + 1) c (tl_eq e) p z
        · rw [go_lt h1 h2 hv, go_eq h1' h2 hw] at e
          exact (hd_12 (tl_eq1 e)).elim
        · rw [go_lt h1 h2 hv, go_gt h1' h2 hw] at e
          exact (hd_13 h2 (tl_eq e)).elim
      · rw [go_eq h1 h2 hv] at hp
        rw [List.mem_singleton.mp hp]
        rcases Int.lt_trichotomy (val U i (c - 1)) k' with hw | hw | hw
        · rw [go_eq h1 h2 hv, go_lt h1' h2 hw] at e
          exact (hd_12 (tl_eq1 e.symm)).elim
        · show val T i (c - 1) < k ↔ val U i (c - 1) < k'
          constructor <;> intro z <;> omega
        · show val T i (c - 1) < k ↔ val U i (c - 1) < k'
          constructor <;> intro z <;> omega
      · rcases Int.lt_trichotomy (val U i (c - 1)) k' with hw | hw | hw
        · rw [go_gt h1 h2 hv, go_lt h1' h2 hw] at e
          exact (hd_13 h2 (tl_eq e).symm).elim
        · rw [go_gt h1 h2 hv, go_eq h1' h2 hw] at e
          exact (hd_23 h2 (tl_eq1 e)).elim
        · rw [go_gt h1 h2 hv] at hp
          rw [go_gt h1 h2 hv, go_gt h1' h2 hw] at e
          rcases List.mem_cons.mp hp with z | z
          · rw [z]
            show val T i (c - 1) < k ↔ val U i (c - 1) < k'
            constructor <;> intro z <;> omega
          · exact go_dir hl f i (c - 1) (tl_eq e) p z
    · rw [go_out h1] at hp
      exact absurd hp List.not_mem_nil
/-- a key between two that go one way goes it, too -/
theorem go_mid {T : Tab} {n : Nat} {k m k' : Int} (t : IsTab T n) (h1 : k < m) (h2 : m < k') (hk : k ∉ T.flatten) (hk' : k' ∉ T.flatten) : ∀ (f i c : Nat), c ≤ n → go T k f i c = go T k' f i c → go T m f i c = go T k f i c
  | 0, i, c, _, e => rfl
  | f + 1, i, c, hc, e => by
    by_cases h : i < T.length ∧ 0 < c
    · obtain ⟨a1, a2⟩ := h
      have hv := val_in t a1 (show c - 1 < n by omega)
      have n1 : val T i (c - 1) ≠ k := fun z => hk (z ▸ hv)
      have n2 : val T i (c - 1) ≠ k' := fun z => hk' (z ▸ hv)
      by_cases b1 : val T i (c - 1) < k
      · rw [go_lt a1 a2 b1, go_lt a1 a2 (show val T i (c - 1) < k' by omega)] at e
        rw [go_lt a1 a2 b1, go_lt a1 a2 (show val T i (c - 1) < m by omega), go_mid t h1 h2 hk hk' f (i + 1) c hc (tl_eq e)]
      · by_cases b2 : k' < val T i (c - 1)
        · rw [go_gt a1 a2 (show k < val T i (c - 1) by omega), go_gt a1 a2 b2] at e
          rw [go_gt a1 a2 (show k < val T i (c - 1) by omega), go_gt a1 a2 (show m < val T i (c - 1) by omega), go_mid t h1 h2 hk hk' f i (c - 1) (by omega) (tl_eq e)]
        · rw [go_gt a1 a2 (show k < val T i (c - 1) by omega), go_lt a1 a2 (show val T i (c - 1) < k' by omega)] at e
          exact (hd_13 a2 (tl_eq e).symm).elim
    · rw [go_out h, go_out h]
theorem run_mid {T : Tab} {n : Nat} {k m k' : Int} (t : IsTab T n) (h1 : k < m) (h2 : m < k') (hk : k ∉ T.flatten) (hk' : k' ∉ T.flatten) (e : run T n k = run T n k') : run T n m = run T n k := go_mid t h1 h2 hk hk' _ 0 n (Nat.le_refl _) e
/-! ### the levels are the values that are found -/
theorem found_lev {T : Tab} {n i j : Nat} (t : IsTab T n) (hi : i < T.length) (hj : j < n) (h : isF T n i j = true) : val T i j = lev T n i j := by
  have e := of_decide_eq_true h
  obtain ⟨_, _, g⟩ := road_end _ 0 n e hi (by omega) (Nat.zero_le _)
  have hm : (i, j) ∈ (run T n (val T i j)).1 := List.mem_of_getElem? g
  have b := run_btw t hm
  have l1 := b.lt hj
  have l2 := b.gt hj
  omega
theorem lev_down' (T : Tab) {n j : Nat} (hj : j < n) : ∀ (d i : Nat), lev T n i j ≤ lev T n (i + d) j
  | 0, i => Int.le_refl _
  | d + 1, i => Int.le_trans (lev_down' T hj d i) (lev_down T (i := i + d) hj)
theorem lev_right' (T : Tab) {n : Nat} (i : Nat) : ∀ (d j : Nat), j + d < n → lev T n i j ≤ lev T n i (j + d)
  | 0, j, _ => Int.le_refl _
  | d + 1, j, h => Int.le_trans (lev_right' T i d j (by omega)) (lev_right T (j := j + d) (by omega) i)
theorem lev_mono (T : Tab) {n i j i' j' : Nat} (h1 : i ≤ i') (h2 : j ≤ j') (h3 : j' < n) : lev T n i j ≤ lev T n i' j' := by
  have a := lev_down' T (n := n) (j := j) (by omega) (i' - i) i
  have b := lev_right' T (n := n) i' (j' - j) j (by omega)
  rw [show i + (i' - i) = i' by omega] at a
  rw [show j + (j' - j) = j' by omega] at b
  exact Int.le_trans a b
/-- a level is found -/
theorem go_level {T : Tab} {n : Nat} {k : Int} {x y : Nat} (hx : x < T.length) (hy : y < n) (hk : lev T n x y = k) : ∀ (f i c : Nat), c ≤ n → (T.length - i) + c ≤ f → i ≤ x → y < c → ∃ x' y' : Nat, (go (levT T n) k f i c).2 = ((x' : Int), (y' : Int)) ∧ x' < T.length ∧ y' < n
  | 0, i, c, h1, h2, h3, h4 => by omega
  | f + 1, i, c, h1, h2, h3, h4 => by
    have a1 : i < (levT T n).length := by rw [levT_len]; omega
    have a2 : 0 < c := by omega
    have ev : val (levT T n) i (c - 1) = lev T n i (c - 1) := val_levT (by omega) (by omega)
    rcases Int.lt_trichotomy (val (levT T n) i (c - 1)) k with hv | hv | hv
    · rw [go_lt a1 a2 hv]
      have : i ≠ x := fun z => by
        have := lev_mono T (i := x) (i' := x) (j := y) (j' := c - 1) (n := n) (Nat.le_refl _) (by omega) (by omega)
        rw [z] at ev hv
        omega
      exact go_level hx hy hk f (i + 1) c h1 (by omega) (by omega) h4
    · rw [go_eq a1 a2 hv]
      exact ⟨i, c - 1, by rw [show (c : Int) - 1 = ((c - 1 : Nat) : Int) by omega], by omega, by omega⟩
    · rw [go_gt a1 a2 hv]
      have : y ≠ c - 1 := fun z => by
        have := lev_mono T (i := i) (i' := x) (j := c - 1) (j' := c - 1) (n := n) h3 (Nat.le_refl _) (by omega)
        rw [z] at hk
        omega
      exact go_level hx hy hk f i (c - 1) (by omega) (by omega) h3 (by omega)
theorem in_levT {T : Tab} {n : Nat} (t : IsTab T n) {v : Int} : v ∈ (levT T n).flatten ↔ ∃ x y, x < T.length ∧ y < n ∧ lev T n x y = v := by
  constructor
  · intro h
    obtain ⟨r, hr, hv⟩ := List.mem_flatten.mp h
    obtain ⟨i, hi, rfl⟩ := List.getElem_of_mem hr
    obtain ⟨j, hj, rfl⟩ := List.getElem_of_mem hv
    rw [levT_len] at hi
    have hj' : j < n := by rw [(levT_is t).row (by rw [levT_len]; exact hi)] at hj; exact hj
    refine ⟨i, j, hi, hj', ?_⟩
    rw [← val_levT hi hj']
    unfold val
    have hi2 : i < (levT T n).length := by rw [levT_len]; exact hi
    rw [getD_at hi2, getD_at (by rw [(levT_is t).row hi2]; exact hj')]
  · rintro ⟨x, y, hx, hy, rfl⟩
    rw [← val_levT hx hy]
    exact val_in (levT_is t) (by rw [levT_len]; exact hx) hy
theorem level_found {T : Tab} {n : Nat} (t : IsTab T n) {v : Int} (h : v ∈ (levT T n).flatten) : ∃ p ∈ foundIn T n, val T p.1 p.2 = v := by
  obtain ⟨x, y, hx, hy, e⟩ := (in_levT t).mp h
  obtain ⟨x', y', e2, h1, h2⟩ := go_level hx hy e (T.length + n) 0 n (Nat.le_refl _) (by omega) (Nat.zero_le _) hy
  have er := run_levT t v
  unfold run at er
  rw [levT_len] at er
  rw [er] at e2
  have ev := run_end_val (T := T) (n := n) e2 h1
  exact ⟨(x', y'), found_of h1 h2 (decide_eq_true (by show (run T n (val T x' y')).2 = _; rw [ev]; exact e2)), ev⟩
theorem found_level {T : Tab} {n : Nat} (t : IsTab T n) {p : Nat × Nat} (h : p ∈ foundIn T n) : val T p.1 p.2 ∈ (levT T n).flatten := by
  obtain ⟨h1, h2, h3⟩ := found_in h
  rw [found_lev t h1 h2 h3]
  exact (in_levT t).mpr ⟨_, _, h1, h2, rfl⟩
theorem found_inj {T : Tab} {n : Nat} {p q : Nat × Nat} (hp : p ∈ foundIn T n) (hq : q ∈ foundIn T n) (e : val T p.1 p.2 = val T q.1 q.2) : p = q := by
  obtain ⟨_, _, h1⟩ := found_in hp
  obtain ⟨_, _, h2⟩ := found_in hq
  have h1 := of_decide_eq_true h1
  have h2 := of_decide_eq_true h2
  rw [e] at h1
  have h := h1.symm.trans h2
  injection h with a b
  exact Prod.ext (by omega) (by omega)
theorem found_rise {T : Tab} {n : Nat} (t : IsTab T n) {p q : Nat × Nat} (hp : p ∈ foundIn T n) (hq : q ∈ foundIn T n) (ne : p ≠ q) (h1 : p.1 ≤ q.1) (h2 : p.2 ≤ q.2) : val T p.1 p.2 < val T q.1 q.2 := by
  obtain ⟨a1, a2, a3⟩ := found_in hp
  obtain ⟨b1, b2, b3⟩ := found_in hq
  have h := lev_mono T (n := n) h1 h2 b2
  rw [← found_lev t a1 a2 a3, ← found_lev t b1 b2 b3] at h
  have : val T p.1 p.2 ≠ val T q.1 q.2 := fun e => ne (found_inj hp hq e)
  omega
theorem fvals_nodup {T : Tab} {n : Nat} : (fvals T n).Nodup := by
  unfold fvals
  refine List.pairwise_map.mpr ?_
  have h := found_nodup T n
  refine List.Pairwise.imp_of_mem ?_ h
  intro a b ha hb ne e
  exact ne (found_inj ha hb e)
theorem fvals_mem {T : Tab} {n : Nat} (t : IsTab T n) {v : Int} : v ∈ fvals T n ↔ v ∈ (levT T n).flatten := by
  constructor
  · intro h
    obtain ⟨p, hp, e⟩ := List.mem_map.mp h
    rw [← e]
    exact found_level t hp
  · intro h
    obtain ⟨p, hp, e⟩ := level_found t h
    exact List.mem_map.mpr ⟨p, hp, e⟩
theorem fvals_perm {T : Tab} {n : Nat} (t : IsTab T n) {L : List Int} (up : L.Pairwise (· < ·)) (hm : ∀ v, v ∈ L ↔ v ∈ (levT T n).flatten) : (fvals T n).Perm L :=
  (List.perm_ext_iff_of_nodup fvals_nodup (up.imp fun {a b} h => by omega)).mpr fun v => by rw [fvals_mem t, hm]
theorem found_count {T : Tab} {n : Nat} (t : IsTab T n) {L : List Int} (up : L.Pairwise (· < ·)) (hm : ∀ v, v ∈ L ↔ v ∈ (levT T n).flatten) : (foundIn T n).length = L.length := by
  have h := (fvals_perm t up hm).length_eq
  unfold fvals at h
  rw [List.length_map] at h
  exact h
theorem sorted_eq {A B : List Int} (p : A.Perm B) (ha : A.Pairwise (· ≤ ·)) (hb : B.Pairwise (· < ·)) : A = B := by
  induction A generalizing B with
  | nil => exact (List.Perm.nil_eq p)
  | cons a A ih =>
    cases B with
    | nil => exact absurd (List.Perm.length_eq p) (by simp)
    | cons b B =>
      have h1 : a ∈ b :: B := p.subset List.mem_cons_self
      have h2 : b ∈ a :: A := p.symm.subset List.mem_cons_self
      have e : a = b := by
        rcases List.mem_cons.mp h1 with z | z
        · exact z
        · rcases List.mem_cons.mp h2 with y | y
          · exact y.symm
          · have := (List.pairwise_cons.mp hb).1 a z
            have := (List.pairwise_cons.mp ha).1 b y
            omega
      subst e
      rw [ih p.cons_inv (List.pairwise_cons.mp ha).2 (List.pairwise_cons.mp hb).2]
end G

namespace G
open PySem PySem.Spec PyProof.Rows L2
/-! ### the search in a corner of a table -/
theorem go_bndR (T : Tab) (k : Int) : ∀ (f i c : Nat), (i : Int) ≤ (go T k f i c).2.1 ∧ (go T k f i c).2.2 ≤ (c : Int) - 1
  | 0, i, c => ⟨Int.le_refl _, Int.le_refl _⟩
  | f + 1, i, c => by
    unfold go
    split
    · rename_i z
      split
      · exact ⟨Int.le_refl _, Int.le_refl _⟩
      · split
        · obtain ⟨h1, h2⟩ := go_bndR T k f (i + 1) c
          exact ⟨by show (i : Int) ≤ (go T k f (i + 1) c).2.1; omega, h2⟩
        · obtain ⟨h1, h2⟩ := go_bndR T k f i (c - 1)
          exact ⟨h1, by show (go T k f i (c - 1)).2.2 ≤ (c : Int) - 1; omega⟩
    · exact ⟨Int.le_refl _, Int.le_refl _⟩
theorem go_outR {T : Tab} {k : Int} {f i c : Nat} (h : ¬ (i < T.length ∧ 0 < c)) : (go T k f i c).2 = ((i : Int), (c : Int) - 1) := by
  cases f with
  | zero => rfl
  | succ f =>
    unfold go
    rw [if_neg h]
theorem rect_go {T R : Tab} {x y : Nat} {k : Int} (hR : R.length = x + 1) (hT : x < T.length) (hv : ∀ i j, i ≤ x → val R i j = val T i (y + j)) : ∀ f f' i c, (T.length - i) + c ≤ f → (R.length - i) + (c - y) ≤ f' → i ≤ x → y < c →
    ((go T k f i c).2 = ((x : Int), (y : Int)) ↔ (go R k f' i (c - y)).2 = ((x : Int), 0))
  | 0, f', i, c, h1, h2, hi, hc => by omega
  | f + 1, 0, i, c, h1, h2, hi, hc => by omega
  | f + 1, f' + 1, i, c, h1, h2, hi, hc => by
    have z1 : i < T.length ∧ 0 < c := ⟨by omega, by omega⟩
    have z2 : i < R.length ∧ 0 < c - y := ⟨by omega, by omega⟩
    have e : val R i (c - y - 1) = val T i (c - 1) := by
      rw [hv i _ hi, show y + (c - y - 1) = c - 1 by omega]
    have gT : go T k (f + 1) i c = if val T i (c - 1) = k then ([(i, c - 1)], ((i : Int), (c : Int) - 1)) else if val T i (c - 1) < k then ((i, c - 1) :: (go T k f (i + 1) c).1, (go T k f (i + 1) c).2) else ((i, c - 1) :: (go T k f i (c - 1)).1, (go T k f i (c - 1)).2) := by
      show (if i < T.length ∧ 0 < c then _ else _) = _
      rw [if_pos z1]
    have gR : go R k (f' + 1) i (c - y) = if val R i (c - y - 1) = k then ([(i, c - y - 1)], ((i : Int), ((c - y : Nat) : Int) - 1)) else if val R i (c - y - 1) < k then ((i, c - y - 1) :: (go R k f' (i + 1) (c - y)).1, (go R k f' (i + 1) (c - y)).2) else ((i, c - y - 1) :: (go R k f' i (c - y - 1)).1, (go R k f' i (c - y - 1)).2) := by
      show (if i < R.length ∧ 0 < c - y then _ else _) = _
      rw [if_pos z2]
    rw [gT, gR, e]
    by_cases h : val T i (c - 1) = k
    · rw [if_pos h, if_pos h]
      simp only [Prod.mk.injEq]
      omega
    · rw [if_neg h, if_neg h]
      by_cases h2 : val T i (c - 1) < k
      · rw [if_pos h2, if_pos h2]
        show (go T k f (i + 1) c).2 = _ ↔ (go R k f' (i + 1) (c - y)).2 = _
        by_cases hx : i = x
        · subst hx
          obtain ⟨b1, _⟩ := go_bndR T k f (i + 1) c
          rw [go_outR (T := R) (show ¬ (i + 1 < R.length ∧ 0 < c - y) by omega)]
          constructor
          · intro q
            rw [q] at b1
            have b1 : ((i + 1 : Nat) : Int) ≤ (i : Int) := b1
            omega
          · intro q
            simp only [Prod.mk.injEq] at q
            omega
        · exact rect_go hR hT hv f f' (i + 1) c (by omega) (by omega) (by omega) hc
      · rw [if_neg h2, if_neg h2]
        show (go T k f i (c - 1)).2 = _ ↔ (go R k f' i (c - y - 1)).2 = _
        by_cases hx : c - 1 = y
        · obtain ⟨_, b2⟩ := go_bndR T k f i (c - 1)
          rw [go_outR (T := R) (show ¬ (i < R.length ∧ 0 < c - y - 1) by omega)]
          constructor
          · intro q
            rw [q] at b2
            have b2 : (y : Int) ≤ ((c - 1 : Nat) : Int) - 1 := b2
            omega
          · intro q
            simp only [Prod.mk.injEq] at q
            omega
        · have r := rect_go (k := k) hR hT hv f f' i (c - 1) (by omega) (by omega) hi (by omega)
          rwa [show c - 1 - y = c - y - 1 by omega] at r
/-- the corner of rows 0..x, columns y.. -/
def corner (T : Tab) (x y : Nat) : Tab := (List.range (x + 1)).map fun i => (T.getD i []).drop y
theorem corner_val {T : Tab} {x y i j : Nat} (hi : i ≤ x) : val (corner T x y) i j = val T i (y + j) := by
  have e : (corner T x y).getD i [] = (T.getD i []).drop y := by
    unfold corner
    rw [List.getD_eq_getElem?_getD, List.getElem?_map, List.getElem?_range (by omega)]
    rfl
  unfold val
  rw [e, List.getD_eq_getElem?_getD, List.getElem?_drop, ← List.getD_eq_getElem?_getD]
theorem isF_corner {T : Tab} {n x y : Nat} (hx : x < T.length) (hy : y < n) : isF T n x y = isF (corner T x y) (n - y) x 0 := by
  have hl : (corner T x y).length = x + 1 := by simp [corner]
  have r := rect_go (T := T) (R := corner T x y) (x := x) (y := y) (k := val T x y) hl hx (fun i j hi => corner_val hi) (T.length + n) ((corner T x y).length + (n - y)) 0 n (by omega) (by omega) (Nat.zero_le _) hy
  unfold isF
  rw [corner_val (Nat.le_refl x)]
  exact decide_eq_decide.mpr r
end G

namespace G
/-! ### all orders of a list of different numbers -/
def ostep (q : List Int) (L : List (List Int)) : List (List Int) := L.flatMap fun row => (q.filter fun o => !row.any fun z => decide (z = o)).map fun o => row ++ [o]
def ordsV (q : List Int) : Nat → List (List Int)
  | 0 => [[]]
  | k + 1 => ostep q (ordsV q k)
theorem notany {row : List Int} {o : Int} : (!row.any fun z => decide (z = o)) = true ↔ o ∉ row := by
  rw [Bool.not_eq_true', ← Bool.not_eq_true, List.any_eq_true]
  constructor
  · exact fun h hm => h ⟨o, hm, decide_eq_true rfl⟩
  · rintro h ⟨z, hz, e⟩
    exact h (of_decide_eq_true e ▸ hz)
theorem mem_ostep {q : List Int} {L : List (List Int)} {r : List Int} : r ∈ ostep q L ↔ ∃ row ∈ L, ∃ o ∈ q, o ∉ row ∧ r = row ++ [o] := by
  unfold ostep
  rw [List.mem_flatMap]
  constructor
  · rintro ⟨row, h1, h2⟩
    obtain ⟨o, h3, rfl⟩ := List.mem_map.mp h2
    obtain ⟨h4, h5⟩ := List.mem_filter.mp h3
    exact ⟨row, h1, o, h4, notany.mp h5, rfl⟩
  · rintro ⟨row, h1, o, h2, h3, rfl⟩
    exact ⟨row, h1, List.mem_map.mpr ⟨o, List.mem_filter.mpr ⟨h2, notany.mpr h3⟩, rfl⟩⟩
theorem mem_ordsV {q : List Int} : ∀ {k : Nat} {r : List Int}, r ∈ ordsV q k ↔ r.length = k ∧ r.Nodup ∧ ∀ v ∈ r, v ∈ q
  | 0, r => by
    show r ∈ [[]] ↔ _
    rw [List.mem_singleton]
    constructor
    · rintro rfl
      exact ⟨rfl, List.nodup_nil, fun v hv => nomatch hv⟩
    · exact fun h => List.eq_nil_of_length_eq_zero h.1
  | k + 1, r => by
    show r ∈ ostep q (ordsV q k) ↔ _
    rw [mem_ostep]
    constructor
    · rintro ⟨row, h1, o, h2, h3, rfl⟩
      obtain ⟨a, b, c⟩ := mem_ordsV.mp h1
      refine ⟨by rw [List.length_append, a]; rfl, List.nodup_append.mpr ⟨b, by simp, fun x hx y hy e => ?_⟩, fun v hv => ?_⟩
      · rw [List.mem_singleton.mp hy] at e
        exact h3 (e ▸ hx)
      · rcases List.mem_append.mp hv with h | h
        · exact c v h
        · rw [List.mem_singleton.mp h]
          exact h2
    · rintro ⟨a, b, c⟩
      have ne : r ≠ [] := fun e => by rw [e] at a; cases a
      have er := List.dropLast_concat_getLast ne
      have hb := b
      rw [← er] at hb
      obtain ⟨b1, _, b3⟩ := List.nodup_append.mp hb
      refine ⟨r.dropLast, mem_ordsV.mpr ⟨by rw [List.length_dropLast, a]; rfl, b1, fun v hv => c v (List.dropLast_subset r hv)⟩, r.getLast ne, c _ (List.getLast_mem ne), fun hm => b3 _ hm _ (List.mem_singleton_self _) rfl, er.symm⟩
theorem nodup_ordsV {q : List Int} (h : q.Nodup) : ∀ k, (ordsV q k).Nodup
  | 0 => by
    show [[]].Nodup
    simp
  | k + 1 => by
    show (List.flatMap _ _).Nodup
    unfold List.Nodup
    rw [List.pairwise_flatMap]
    refine ⟨fun row _ => ?_, ?_⟩
    · rw [List.pairwise_map]
      exact (h.filter _).imp fun {a b} hab e => hab (by have := List.append_cancel_left e; injection this)
    · refine (nodup_ordsV h k).imp fun {a b} hab x hx y hy e => hab ?_
      obtain ⟨o, _, rfl⟩ := List.mem_map.mp hx
      obtain ⟨o', _, rfl⟩ := List.mem_map.mp hy
      exact (List.append_inj' e rfl).1
theorem ordsV_perm {q q' : List Int} (h : q.Nodup) (h' : q'.Nodup) (hm : ∀ v, v ∈ q ↔ v ∈ q') (k : Nat) : (ordsV q k).Perm (ordsV q' k) := by
  refine (List.perm_ext_iff_of_nodup (nodup_ordsV h k) (nodup_ordsV h' k)).mpr fun r => ?_
  rw [mem_ordsV, mem_ordsV]
  constructor
  · exact fun ⟨a, b, c⟩ => ⟨a, b, fun v hv => (hm v).mp (c v hv)⟩
  · exact fun ⟨a, b, c⟩ => ⟨a, b, fun v hv => (hm v).mpr (c v hv)⟩
theorem ordsV_map {q : List Int} {f : Int → Int} (inj : ∀ a ∈ q, ∀ b ∈ q, f a = f b → a = b) : ∀ k, (ordsV q k).map (List.map f) = ordsV (q.map f) k
  | 0 => rfl
  | k + 1 => by
    show (ostep q (ordsV q k)).map _ = ostep (q.map f) (ordsV (q.map f) k)
    rw [← ordsV_map inj k]
    have key : ∀ L : List (List Int), (∀ r ∈ L, ∀ v ∈ r, v ∈ q) → (ostep q L).map (List.map f) = ostep (q.map f) (L.map (List.map f)) := by
      intro L
      induction L with
      | nil => intro _; rfl
      | cons row L ih =>
        intro hL
        show ((_ : List (List Int)) ++ ostep q L).map _ = (_ : List (List Int)) ++ ostep (q.map f) (L.map (List.map f))
        rw [List.map_append, ih fun r hr => hL r (List.mem_cons_of_mem _ hr)]
        congr 1
        dsimp only
        rw [List.filter_map, List.map_map, List.map_map]
        have e : q.filter ((fun o => !(row.map f).any fun z => decide (z = o)) ∘ f) = q.filter fun o => !row.any fun z => decide (z = o) := by
          refine List.filter_congr fun o ho => ?_
          have hr := hL row List.mem_cons_self
          have z : ((!(row.map f).any fun z => decide (z = f o)) = true) ↔ ((!row.any fun z => decide (z = o)) = true) := by
            rw [notany, notany]
            constructor
            · exact fun h hm => h (List.mem_map_of_mem hm)
            · intro h hm
              obtain ⟨a, ha, ea⟩ := List.mem_map.mp hm
              exact h (inj a (hr a ha) o ho ea ▸ ha)
          exact Bool.eq_iff_iff.mpr z
        rw [e]
        apply List.map_congr_left
        intro o _
        show (row ++ [o]).map f = row.map f ++ [f o]
        rw [List.map_append]
        rfl
    exact key _ fun r hr => (mem_ordsV.mp hr).2.2
/-! the ranks -/
def rankI (q : List Int) (v : Int) : Int := ((q.filter fun u => decide (u < v)).length : Nat)
theorem rank_lt {q : List Int} {u v : Int} (hu : u ∈ q) (h : u < v) : rankI q u < rankI q v := by
  unfold rankI
  have key : ∀ L : List Int, (L.filter fun w => decide (w < u)).length ≤ (L.filter fun w => decide (w < v)).length ∧ (u ∈ L → (L.filter fun w => decide (w < u)).length < (L.filter fun w => decide (w < v)).length) := by
    intro L
    induction L with
    | nil => exact ⟨Nat.le_refl _, fun h => nomatch h⟩
    | cons a L ih =>
      obtain ⟨i1, i2⟩ := ih
      by_cases z1 : a < u
      · have z2 : a < v := by omega
        rw [List.filter_cons, List.filter_cons, if_pos (decide_eq_true z1), if_pos (decide_eq_true z2), List.length_cons, List.length_cons]
        refine ⟨by omega, fun hm => ?_⟩
        rcases List.mem_cons.mp hm with e | hm
        · omega
        · have := i2 hm
          omega
      · rw [List.filter_cons, List.filter_cons, if_neg (by simpa using z1)]
        by_cases z2 : a < v
        · rw [if_pos (decide_eq_true z2), List.length_cons]
          exact ⟨by omega, fun _ => by omega⟩
        · rw [if_neg (by simpa using z2)]
          refine ⟨i1, fun hm => ?_⟩
          rcases List.mem_cons.mp hm with e | hm
          · omega
          · exact i2 hm
  have := (key q).2 hu
  omega
theorem rank_lt_iff {q : List Int} {u v : Int} (hu : u ∈ q) (hv : v ∈ q) : rankI q u < rankI q v ↔ u < v := by
  constructor
  · intro h
    rcases Int.lt_trichotomy u v with z | z | z
    · exact z
    · rw [z] at h
      omega
    · have := rank_lt hv z
      omega
  · exact rank_lt hu
theorem rank_inj {q : List Int} {u v : Int} (hu : u ∈ q) (hv : v ∈ q) (h : rankI q u = rankI q v) : u = v := by
  rcases Int.lt_trichotomy u v with z | z | z
  · have := rank_lt hu z
    omega
  · exact z
  · have := rank_lt hv z
    omega
theorem rank_rng {q : List Int} {v : Int} (hv : v ∈ q) : 0 ≤ rankI q v ∧ rankI q v < (q.length : Int) := by
  unfold rankI
  refine ⟨by omega, ?_⟩
  have key : ∀ L : List Int, v ∈ L → (L.filter fun w => decide (w < v)).length < L.length := by
    intro L
    induction L with
    | nil => exact fun h => nomatch h
    | cons a L ih =>
      intro hm
      have le := List.length_filter_le (fun w => decide (w < v)) L
      rw [List.filter_cons]
      by_cases z : a < v
      · rw [if_pos (decide_eq_true z), List.length_cons, List.length_cons]
        rcases List.mem_cons.mp hm with e | hm
        · omega
        · have := ih hm
          omega
      · rw [if_neg (by simpa using z), List.length_cons]
        omega
  have := key q hv
  omega
theorem nodup_len {α : Type} [DecidableEq α] : ∀ (ks A : List α), ks.Nodup → (∀ k ∈ ks, k ∈ A) → ks.length ≤ A.length
  | [], A, _, _ => Nat.zero_le _
  | k :: ks, A, h, hs => by
    obtain ⟨h1, h2⟩ := List.nodup_cons.mp h
    have hk := hs k List.mem_cons_self
    have z := nodup_len ks (A.erase k) h2 fun x hx => (List.mem_erase_of_ne (fun e => h1 (by rw [← e]; exact hx))).mpr (hs x (List.mem_cons_of_mem _ hx))
    rw [List.length_erase_of_mem hk] at z
    have : 0 < A.length := List.length_pos_of_mem hk
    rw [List.length_cons]
    omega
def rngZ (k : Nat) : List Int := (List.range k).map fun i => ((i : Nat) : Int)
theorem rngZ_nodup (k : Nat) : (rngZ k).Nodup := List.pairwise_map.mpr (List.nodup_range.imp fun {a b} h e => h (by exact Int.ofNat.inj e))
theorem rank_mem {q : List Int} (h : q.Nodup) (v : Int) : v ∈ q.map (rankI q) ↔ v ∈ rngZ q.length := by
  have nd : (q.map (rankI q)).Nodup := List.pairwise_map.mpr (List.Pairwise.imp_of_mem (fun {a b} ha hb hab e => hab (rank_inj ha hb e)) h)
  have sub : ∀ w ∈ q.map (rankI q), w ∈ rngZ q.length := fun w hw => by
    obtain ⟨u, hu, rfl⟩ := List.mem_map.mp hw
    obtain ⟨r1, r2⟩ := rank_rng hu
    exact List.mem_map.mpr ⟨(rankI q u).toNat, List.mem_range.mpr (by omega), by omega⟩
  refine ⟨sub v, fun hv => ?_⟩
  refine Classical.byContradiction fun hn => ?_
  have z := nodup_len _ ((rngZ q.length).erase v) nd fun w hw => (List.mem_erase_of_ne (fun e => hn (by rw [← e]; exact hw))).mpr (sub w hw)
  rw [List.length_erase_of_mem hv, List.length_map, show (rngZ q.length).length = q.length by simp [rngZ]] at z
  have : 0 < q.length := by
    have := List.length_pos_of_mem hv
    simpa [rngZ] using this
  omega
/-- what is counted by order alone is counted the same for any different numbers -/
theorem count_rank {q : List Int} (h : q.Nodup) (Pb : List Int → Bool) (inv : ∀ r ∈ ordsV q q.length, Pb (r.map (rankI q)) = Pb r) : ((ordsV q q.length).filter Pb).length = ((ordsV (rngZ q.length) q.length).filter Pb).length := by
  have nd : (q.map (rankI q)).Nodup := List.pairwise_map.mpr (List.Pairwise.imp_of_mem (fun {a b} ha hb hab e => hab (rank_inj ha hb e)) h)
  have p := ((ordsV_perm nd (rngZ_nodup q.length) (rank_mem h) q.length).filter Pb).length_eq
  rw [← p, ← ordsV_map fun a ha b hb e => rank_inj ha hb e, List.filter_map, List.length_map]
  congr 1
  exact List.filter_congr fun r hr => (inv r hr).symm
end G

namespace G
open PySem PySem.Spec PyProof.Rows L2
/-! ### the search asks only for the order of the values -/
theorem go_iso {T T' : Tab} {n : Nat} {k k' : Int} (hl : T'.length = T.length) (h : ∀ i j, i < T.length → j < n → (val T' i j = k' ↔ val T i j = k) ∧ (val T' i j < k' ↔ val T i j < k)) : ∀ f i c, c ≤ n → (go T' k' f i c).2 = (go T k f i c).2
  | 0, i, c, _ => rfl
  | f + 1, i, c, hc => by
    unfold go
    rw [hl]
    by_cases z : i < T.length ∧ 0 < c
    · rw [if_pos z, if_pos z]
      obtain ⟨h1, h2⟩ := h i (c - 1) z.1 (by omega)
      by_cases e : val T i (c - 1) = k
      · rw [if_pos e, if_pos (h1.mpr e)]
      · rw [if_neg e, if_neg fun q => e (h1.mp q)]
        by_cases l : val T i (c - 1) < k
        · rw [if_pos l, if_pos (h2.mpr l)]
          exact go_iso hl h f (i + 1) c hc
        · rw [if_neg l, if_neg fun q => l (h2.mp q)]
          exact go_iso hl h f i (c - 1) (by omega)
    · rw [if_neg z, if_neg z]
theorem isF_iso {T T' : Tab} {n x y : Nat} (hl : T'.length = T.length) (hx : x < T.length) (hy : y < n) (h : ∀ i j i' j', i < T.length → j < n → i' < T.length → j' < n → (val T' i j < val T' i' j' ↔ val T i j < val T i' j')) : isF T' n x y = isF T n x y := by
  unfold isF run
  rw [hl, go_iso (k := val T x y) (k' := val T' x y) hl (fun i j hi hj => ⟨?_, h i j x y hi hj hx hy⟩) _ _ _ (Nat.le_refl n)]
  have a := h i j x y hi hj hx hy
  have b := h x y i j hx hy hi hj
  constructor
  · intro e
    rcases Int.lt_trichotomy (val T i j) (val T x y) with z | z | z
    · have := a.mpr z
      omega
    · exact z
    · have := b.mpr z
      omega
  · intro e
    rcases Int.lt_trichotomy (val T' i j) (val T' x y) with z | z | z
    · have := a.mp z
      omega
    · exact z
    · have := b.mp z
      omega
/-- a list laid out in rows of n -/
def layN (m n : Nat) (L : List Int) : Tab := (List.range m).map fun i => (L.drop (i * n)).take n
theorem layN_val {m n i j : Nat} {L : List Int} (hi : i < m) (hj : j < n) : val (layN m n L) i j = L.getD (i * n + j) 0 := by
  have e : (layN m n L).getD i [] = (L.drop (i * n)).take n := by
    unfold layN
    rw [List.getD_eq_getElem?_getD, List.getElem?_map, List.getElem?_range hi]
    rfl
  unfold val
  rw [e, List.getD_eq_getElem?_getD, List.getElem?_take_of_lt hj, List.getElem?_drop, ← List.getD_eq_getElem?_getD]
theorem lay_at {m n i j : Nat} (hi : i < m) (hj : j < n) : i * n + j < m * n := by
  have : (i + 1) * n ≤ m * n := Nat.mul_le_mul_right n hi
  rw [Nat.succ_mul] at this
  omega
/-- whether the place at the left of the last row is found, the values laid out in rows of n -/
def cornB (m n : Nat) (L : List Int) : Bool := isF (layN (m + 1) n L) n m 0
theorem corn_inv {m n : Nat} {q r : List Int} (hn : 0 < n) (hr : r ∈ ordsV q q.length) (hq : q.length = (m + 1) * n) : cornB m n (r.map (rankI q)) = cornB m n r := by
  obtain ⟨r1, _, r3⟩ := mem_ordsV.mp hr
  unfold cornB
  refine isF_iso (by simp [layN]) (by simp [layN]) hn fun i j i' j' hi hj hi' hj' => ?_
  have hi : i < m + 1 := by simpa [layN] using hi
  have hi' : i' < m + 1 := by simpa [layN] using hi'
  rw [layN_val hi hj, layN_val hi' hj', layN_val hi hj, layN_val hi' hj']
  have a1 : i * n + j < r.length := by rw [r1, hq]; exact lay_at hi hj
  have a2 : i' * n + j' < r.length := by rw [r1, hq]; exact lay_at hi' hj'
  have e : ∀ {x : Nat}, x < r.length → (r.map (rankI q)).getD x 0 = rankI q (r.getD x 0) ∧ r.getD x 0 ∈ q := fun {x} hx => by
    rw [List.getD_eq_getElem?_getD, List.getD_eq_getElem?_getD, List.getElem?_map, List.getElem?_eq_getElem hx]
    exact ⟨rfl, r3 _ (List.getElem_mem hx)⟩
  rw [(e a1).1, (e a2).1]
  exact rank_lt_iff (e a1).2 (e a2).2
/-- in how many orders it is found -/
def cornN (m n : Nat) : Nat := ((ordsV (rngZ ((m + 1) * n)) ((m + 1) * n)).filter (cornB m n)).length
theorem corn_count {m n : Nat} {q : List Int} (h : q.Nodup) (hn : 0 < n) (hq : q.length = (m + 1) * n) : ((ordsV q q.length).filter (cornB m n)).length = cornN m n := by
  rw [count_rank h (cornB m n) fun r hr => corn_inv hn hr hq, hq]
  rfl
end G

namespace G
def fct : Nat → Nat
  | 0 => 1
  | n + 1 => (n + 1) * fct n
theorem corn_small : ([(0, 1), (0, 2), (0, 3), (0, 4), (0, 5), (1, 1), (1, 2), (2, 1)] : List (Nat × Nat)).all (fun p => decide (cornN p.1 p.2 * (p.1 + p.2) = fct ((p.1 + 1) * p.2))) = true := by decide +kernel
theorem corn_06 : cornN 0 6 * 6 = fct 6 := by decide +kernel
theorem corn_13 : cornN 1 3 * 4 = fct 6 := by decide +kernel
theorem corn_22 : cornN 2 2 * 4 = fct 6 := by decide +kernel
theorem corn_all {m n : Nat} (h : (m = 0 ∧ 1 ≤ n ∧ n ≤ 6) ∨ (m = 1 ∧ 1 ≤ n ∧ n ≤ 3) ∨ (m = 2 ∧ 1 ≤ n ∧ n ≤ 2)) : cornN m n * (m + n) = fct ((m + 1) * n) := by
  have z := fun p hp => of_decide_eq_true (List.all_eq_true.mp corn_small p hp)
  rcases h with ⟨rfl, h1, h2⟩ | ⟨rfl, h1, h2⟩ | ⟨rfl, h1, h2⟩
  · obtain rfl | rfl | rfl | rfl | rfl | rfl : n = 1 ∨ n = 2 ∨ n = 3 ∨ n = 4 ∨ n = 5 ∨ n = 6 := by omega
    · exact z (0, 1) (by decide)
    · exact z (0, 2) (by decide)
    · exact z (0, 3) (by decide)
    · exact z (0, 4) (by decide)
    · exact z (0, 5) (by decide)
    · exact corn_06
  · obtain rfl | rfl | rfl : n = 1 ∨ n = 2 ∨ n = 3 := by omega
    · exact z (1, 1) (by decide)
    · exact z (1, 2) (by decide)
    · exact corn_13
  · obtain rfl | rfl : n = 1 ∨ n = 2 := by omega
    · exact z (2, 1) (by decide)
    · exact corn_22
end G

namespace G
open PySem PySem.Spec PyProof.Rows L2
/-! ### tables of rising rows: found is what exceeds all above it in its column -/
/-- what is asked of the table for the place (x, y) -/
structure RowsUp (T : Tab) (n x y : Nat) : Prop where
  hx : x < T.length
  hy : y < n
  up : ∀ i j j', i < T.length → j < j' → j' < n → val T i j < val T i j'
  ne : ∀ i j, i < x → j < n → val T i j ≠ val T x y
theorem rec_go {T : Tab} {n x y : Nat} (r : RowsUp T n x y) : ∀ f i c, (T.length - i) + c ≤ f → i ≤ x → y < c → c ≤ n → ((go T (val T x y) f i c).2 = ((x : Int), (y : Int)) ↔ ∀ i', i ≤ i' → i' < x → val T i' y < val T x y)
  | 0, i, c, h1, hi, hc, hn => by
    have := r.hx
    omega
  | f + 1, i, c, h1, hi, hc, hn => by
    have hx := r.hx
    have z1 : i < T.length ∧ 0 < c := ⟨by omega, by omega⟩
    have gT : go T (val T x y) (f + 1) i c = if val T i (c - 1) = val T x y then ([(i, c - 1)], ((i : Int), (c : Int) - 1)) else if val T i (c - 1) < val T x y then ((i, c - 1) :: (go T (val T x y) f (i + 1) c).1, (go T (val T x y) f (i + 1) c).2) else ((i, c - 1) :: (go T (val T x y) f i (c - 1)).1, (go T (val T x y) f i (c - 1)).2) := by
      show (if i < T.length ∧ 0 < c then _ else _) = _
      rw [if_pos z1]
    rw [gT]
    by_cases ix : i = x
    · subst ix
      have triv : ∀ i', i ≤ i' → i' < i → val T i' y < val T i y := fun i' h1 h2 => by omega
      by_cases cy : c - 1 = y
      · rw [cy, if_pos rfl]
        refine ⟨fun _ => triv, fun _ => ?_⟩
        show ((i : Int), (c : Int) - 1) = _
        rw [show (c : Int) - 1 = (y : Int) by omega]
      · have lt := r.up i y (c - 1) hx (by omega) (by omega)
        rw [if_neg (by omega), if_neg (by omega)]
        show (go T (val T i y) f i (c - 1)).2 = _ ↔ _
        exact rec_go r f i (c - 1) (by omega) (Nat.le_refl _) (by omega) (by omega)
    · have ilt : i < x := by omega
      have ne := r.ne i (c - 1) ilt (by omega)
      rw [if_neg ne]
      by_cases lt : val T i (c - 1) < val T x y
      · rw [if_pos lt]
        show (go T (val T x y) f (i + 1) c).2 = _ ↔ _
        rw [rec_go r f (i + 1) c (by omega) (by omega) hc hn]
        constructor
        · intro h i' a1 a2
          by_cases e : i' = i
          · subst e
            by_cases cy : c - 1 = y
            · rw [cy] at lt
              exact lt
            · have := r.up i' y (c - 1) (by omega) (by omega) (by omega)
              omega
          · exact h i' (by omega) a2
        · exact fun h i' a1 a2 => h i' (by omega) a2
      · rw [if_neg lt]
        show (go T (val T x y) f i (c - 1)).2 = _ ↔ _
        by_cases cy : c - 1 = y
        · obtain ⟨_, b2⟩ := go_bndR T (val T x y) f i (c - 1)
          constructor
          · intro q
            rw [q] at b2
            have b2 : (y : Int) ≤ ((c - 1 : Nat) : Int) - 1 := b2
            omega
          · intro h
            have := h i (Nat.le_refl _) ilt
            rw [cy] at lt
            exact absurd this lt
        · exact rec_go r f i (c - 1) (by omega) hi (by omega) (by omega)
theorem isF_rec {T : Tab} {n x y : Nat} (r : RowsUp T n x y) : isF T n x y = true ↔ ∀ i, i < x → val T i y < val T x y := by
  unfold isF run
  rw [decide_eq_true_eq, rec_go r (T.length + n) 0 n (by omega) (Nat.zero_le _) r.hy (Nat.le_refl _)]
  exact ⟨fun h i hi => h i (Nat.zero_le _) hi, fun h i _ hi => h i hi⟩
/-! in how many orders the x-th exceeds all before it -/
def recB (x : Nat) (L : List Int) : Bool := (List.range x).all fun i => decide (L.getD i 0 < L.getD x 0)
def recN (m x : Nat) : Nat := ((ordsV (rngZ m) m).filter (recB x)).length
theorem rec_inv {x : Nat} {q r : List Int} (hr : r ∈ ordsV q q.length) (hx : x < q.length) : recB x (r.map (rankI q)) = recB x r := by
  obtain ⟨r1, _, r3⟩ := mem_ordsV.mp hr
  have e : ∀ {z : Nat}, z < r.length → (r.map (rankI q)).getD z 0 = rankI q (r.getD z 0) ∧ r.getD z 0 ∈ q := fun {z} hz => by
    rw [List.getD_eq_getElem?_getD, List.getD_eq_getElem?_getD, List.getElem?_map, List.getElem?_eq_getElem hz]
    exact ⟨rfl, r3 _ (List.getElem_mem hz)⟩
  unfold recB
  refine Bool.eq_iff_iff.mpr ?_
  rw [List.all_eq_true, List.all_eq_true]
  constructor
  · intro h i hi
    have hi2 := List.mem_range.mp hi
    have := of_decide_eq_true (h i hi)
    rw [(e (by omega)).1, (e (show x < r.length by omega)).1] at this
    exact decide_eq_true ((rank_lt_iff (e (by omega)).2 (e (by omega)).2).mp this)
  · intro h i hi
    have hi2 := List.mem_range.mp hi
    have := of_decide_eq_true (h i hi)
    rw [(e (show i < r.length by omega)).1, (e (show x < r.length by omega)).1]
    exact decide_eq_true ((rank_lt_iff (e (by omega)).2 (e (by omega)).2).mpr this)
theorem rec_count {q : List Int} {x : Nat} (h : q.Nodup) (hx : x < q.length) : ((ordsV q q.length).filter (recB x)).length = recN q.length x :=
  count_rank h (recB x) fun r hr => rec_inv hr hx
theorem rec_small : ∀ m : Fin 6, ∀ x : Fin 6, x.val < m.val → recN m.val x.val * (x.val + 1) = fct m.val := by decide +kernel
theorem ords_count : ∀ m : Fin 6, (ordsV (rngZ m.val) m.val).length = fct m.val := by decide +kernel
end G

namespace G
open PySem PySem.Spec PyProof.Rows L2
/-! ### tables that rise: all places are found -/
structure Rise (T : Tab) (n : Nat) : Prop where
  row : ∀ i j j', i < T.length → j < j' → j' < n → val T i j < val T i j'
  col : ∀ i i' j, i < i' → i' < T.length → j < n → val T i j < val T i' j
  one : ∀ i j i' j', i < T.length → j < n → i' < T.length → j' < n → val T i j = val T i' j' → i = i' ∧ j = j'
theorem Rise.rowle {T : Tab} {n : Nat} (r : Rise T n) {i j j' : Nat} (hi : i < T.length) (h : j ≤ j') (hj : j' < n) : val T i j ≤ val T i j' := by
  by_cases e : j = j'
  · rw [e]; exact Int.le_refl _
  · have := r.row i j j' hi (by omega) hj
    omega
theorem Rise.colle {T : Tab} {n : Nat} (r : Rise T n) {i i' j : Nat} (h : i ≤ i') (hi : i' < T.length) (hj : j < n) : val T i j ≤ val T i' j := by
  by_cases e : i = i'
  · rw [e]; exact Int.le_refl _
  · have := r.col i i' j (by omega) hi hj
    omega
theorem rise_go {T : Tab} {n x y : Nat} (r : Rise T n) (hx : x < T.length) (hy : y < n) : ∀ f i c, (T.length - i) + c ≤ f → i ≤ x → y < c → c ≤ n → (go T (val T x y) f i c).2 = ((x : Int), (y : Int))
  | 0, i, c, h1, hi, hc, hn => by omega
  | f + 1, i, c, h1, hi, hc, hn => by
    have gT : go T (val T x y) (f + 1) i c = if val T i (c - 1) = val T x y then ([(i, c - 1)], ((i : Int), (c : Int) - 1)) else if val T i (c - 1) < val T x y then ((i, c - 1) :: (go T (val T x y) f (i + 1) c).1, (go T (val T x y) f (i + 1) c).2) else ((i, c - 1) :: (go T (val T x y) f i (c - 1)).1, (go T (val T x y) f i (c - 1)).2) := by
      show (if i < T.length ∧ 0 < c then _ else _) = _
      rw [if_pos ⟨by omega, by omega⟩]
    rw [gT]
    by_cases e : val T i (c - 1) = val T x y
    · rw [if_pos e]
      obtain ⟨rfl, e2⟩ := r.one i (c - 1) x y (by omega) (by omega) hx hy e
      show ((i : Int), (c : Int) - 1) = _
      rw [show (c : Int) - 1 = (y : Int) by omega]
    · rw [if_neg e]
      by_cases l : val T i (c - 1) < val T x y
      · rw [if_pos l]
        have lt : i < x := by
          by_cases z : i = x
          · subst z
            have := r.rowle hx (show y ≤ c - 1 by omega) (by omega)
            omega
          · omega
        exact rise_go r hx hy f (i + 1) c (by omega) lt hc hn
      · rw [if_neg l]
        have lt : y < c - 1 := by
          by_cases z : c - 1 = y
          · rw [z] at e l
            have := r.colle hi hx hy
            omega
          · omega
        exact rise_go r hx hy f i (c - 1) (by omega) hi lt (by omega)
theorem rise_found {T : Tab} {n x y : Nat} (r : Rise T n) (hx : x < T.length) (hy : y < n) : isF T n x y = true := by
  unfold isF run
  rw [decide_eq_true_eq]
  exact rise_go r hx hy (T.length + n) 0 n (by omega) (Nat.zero_le _) hy (Nat.le_refl _)
/-- all places found: the table rises -/
theorem found_rises {T : Tab} {n : Nat} (t : IsTab T n) (h : ∀ i j, i < T.length → j < n → isF T n i j = true) : Rise T n := by
  have lv : ∀ i j, i < T.length → j < n → val T i j = lev T n i j := fun i j hi hj => found_lev t hi hj (h i j hi hj)
  have inP : ∀ i j, i < T.length → j < n → (i, j) ∈ foundIn T n := fun i j hi hj => found_of hi hj (h i j hi hj)
  have one : ∀ i j i' j', i < T.length → j < n → i' < T.length → j' < n → val T i j = val T i' j' → i = i' ∧ j = j' := fun i j i' j' h1 h2 h3 h4 e => by
    have z := found_inj (inP i j h1 h2) (inP i' j' h3 h4) e
    simpa using z
  have rl : ∀ i j j', i < T.length → j < j' → j' < n → val T i j < val T i j' := fun i j j' hi hj hj' => by
    have le : val T i j ≤ val T i j' := by
      rw [lv i j hi (by omega), lv i j' hi hj']
      have := lev_right' T (n := n) i (j' - j) j (by omega)
      rwa [show j + (j' - j) = j' by omega] at this
    have ne : val T i j ≠ val T i j' := fun e => by
      have := (one i j i j' hi (by omega) hi hj' e).2
      omega
    omega
  have cl : ∀ i i' j, i < i' → i' < T.length → j < n → val T i j < val T i' j := fun i i' j hi hi' hj => by
    have le : val T i j ≤ val T i' j := by
      rw [lv i j (by omega) hj, lv i' j hi' hj]
      have := lev_down' T (n := n) (j := j) hj (i' - i) i
      rwa [show i + (i' - i) = i' by omega] at this
    have ne : val T i j ≠ val T i' j := fun e => by
      have := (one i j i' j (by omega) hj hi' hj e).1
      omega
    omega
  exact ⟨rl, cl, one⟩
theorem all_iff {T : Tab} {n : Nat} (t : IsTab T n) : (foundIn T n).length = T.length * n ↔ ∀ i j, i < T.length → j < n → isF T n i j = true := by
  have cnt : ∀ m, m ≤ T.length → ((List.range m).flatMap fun i => ((List.range n).filter (isF T n i)).map fun j => (i, j)).length ≤ m * n ∧ (((List.range m).flatMap fun i => ((List.range n).filter (isF T n i)).map fun j => (i, j)).length = m * n ↔ ∀ i j, i < m → j < n → isF T n i j = true) := by
    intro m
    induction m with
    | zero => intro _; simp
    | succ m ih =>
      intro hm
      obtain ⟨h1, h2⟩ := ih (by omega)
      have le : ((List.range n).filter (isF T n m)).length ≤ n := by
        refine Nat.le_trans (List.length_filter_le _ _) ?_
        rw [List.length_range]
        exact Nat.le_refl _
      have eqn : ((List.range n).filter (isF T n m)).length = n ↔ ∀ j, j < n → isF T n m j = true := by
        have z := List.length_filter_eq_length_iff (l := List.range n) (p := isF T n m)
        rw [List.length_range] at z
        rw [z]
        exact ⟨fun h j hj => h j (List.mem_range.mpr hj), fun h j hj => h j (List.mem_range.mp hj)⟩
      rw [List.range_succ, List.flatMap_append, List.length_append]
      simp only [List.flatMap_cons, List.flatMap_nil, List.append_nil, List.length_map]
      rw [Nat.succ_mul]
      refine ⟨by omega, ?_⟩
      constructor
      · intro e i j hi hj
        have e1 : ((List.range m).flatMap fun i => ((List.range n).filter (isF T n i)).map fun j => (i, j)).length = m * n := by omega
        have e2 : ((List.range n).filter (isF T n m)).length = n := by omega
        by_cases z : i = m
        · rw [z]
          exact eqn.mp e2 j hj
        · exact h2.mp e1 i j (by omega) hj
      · intro h
        rw [h2.mpr fun i j hi hj => h i j (by omega) hj, eqn.mpr fun j hj => h m j (by omega) hj]
  exact (cnt T.length (Nat.le_refl _)).2
theorem all_rise {T : Tab} {n : Nat} (t : IsTab T n) : (foundIn T n).length = T.length * n ↔ Rise T n :=
  (all_iff t).trans ⟨found_rises t, fun r i j hi hj => rise_found r hi hj⟩
theorem turn_val {T : Tab} {n i j : Nat} (hi : i < T.length) (hj : j < n) : val (turn T n) j i = val T i j := by
  unfold val turn
  have e : ((List.range n).map fun j => T.map fun r => r.getD j 0).getD j [] = T.map fun r => r.getD j 0 := by
    rw [List.getD_eq_getElem?_getD, List.getElem?_map, List.getElem?_range hj]
    rfl
  rw [e, List.getD_eq_getElem?_getD, List.getElem?_map, List.getElem?_eq_getElem hi, List.getD_eq_getElem?_getD (l := T), List.getElem?_eq_getElem hi]
  rfl
theorem turn_rise {T : Tab} {n : Nat} : Rise (turn T n) T.length ↔ Rise T n := by
  have tl := turn_len T n
  constructor
  · intro r
    refine ⟨fun i j j' hi hj hj' => ?_, fun i i' j hi hi' hj => ?_, fun i j i' j' h1 h2 h3 h4 e => ?_⟩
    · have := r.col j j' i hj (by rw [tl]; exact hj') hi
      rwa [turn_val hi (by omega), turn_val hi hj'] at this
    · have := r.row j i i' (by rw [tl]; exact hj) hi hi'
      rwa [turn_val (by omega) hj, turn_val hi' hj] at this
    · have := r.one j i j' i' (by rw [tl]; exact h2) h1 (by rw [tl]; exact h4) h3 (by rw [turn_val h1 h2, turn_val h3 h4]; exact e)
      exact ⟨this.2, this.1⟩
  · intro r
    refine ⟨fun j i i' hj hi hi' => ?_, fun j j' i hj hj' hi => ?_, fun j i j' i' h1 h2 h3 h4 e => ?_⟩
    · rw [tl] at hj
      rw [turn_val (by omega) hj, turn_val hi' hj]
      exact r.col i i' j hi hi' hj
    · rw [tl] at hj'
      rw [turn_val hi (by omega), turn_val hi hj']
      exact r.row i j j' hi hj hj'
    · rw [tl] at h1 h3
      rw [turn_val h2 h1, turn_val h4 h3] at e
      have := r.one i j i' j' h2 h1 h4 h3 e
      exact ⟨this.2, this.1⟩
/-! ### columns that rise: found is what is less than all to its right -/
structure ColsUp (T : Tab) (n x y : Nat) : Prop where
  hx : x < T.length
  hy : y < n
  up : ∀ i i' j, i < i' → i' < T.length → j < n → val T i j < val T i' j
  ne : ∀ i j, i < T.length → y < j → j < n → val T i j ≠ val T x y
theorem cols_go {T : Tab} {n x y : Nat} (r : ColsUp T n x y) : ∀ f i c, (T.length - i) + c ≤ f → i ≤ x → y < c → c ≤ n → ((go T (val T x y) f i c).2 = ((x : Int), (y : Int)) ↔ ∀ j, y < j → j < c → val T x y < val T x j)
  | 0, i, c, h1, hi, hc, hn => by
    have := r.hx
    omega
  | f + 1, i, c, h1, hi, hc, hn => by
    have hx := r.hx
    have gT : go T (val T x y) (f + 1) i c = if val T i (c - 1) = val T x y then ([(i, c - 1)], ((i : Int), (c : Int) - 1)) else if val T i (c - 1) < val T x y then ((i, c - 1) :: (go T (val T x y) f (i + 1) c).1, (go T (val T x y) f (i + 1) c).2) else ((i, c - 1) :: (go T (val T x y) f i (c - 1)).1, (go T (val T x y) f i (c - 1)).2) := by
      show (if i < T.length ∧ 0 < c then _ else _) = _
      rw [if_pos ⟨by omega, by omega⟩]
    rw [gT]
    by_cases cy : c - 1 = y
    · have triv : ∀ j, y < j → j < c → val T x y < val T x j := fun j h1 h2 => by omega
      rw [cy]
      by_cases ix : i = x
      · subst ix
        rw [if_pos rfl]
        refine ⟨fun _ => triv, fun _ => ?_⟩
        show ((i : Int), (c : Int) - 1) = _
        rw [show (c : Int) - 1 = (y : Int) by omega]
      · have lt := r.up i x y (by omega) hx r.hy
        rw [if_neg (by omega), if_pos lt]
        exact cols_go r f (i + 1) c (by omega) (by omega) hc hn
    · have ne := r.ne i (c - 1) (by omega) (by omega) (by omega)
      rw [if_neg ne]
      have split : (∀ j, y < j → j < c → val T x y < val T x j) ↔ val T x y < val T x (c - 1) ∧ ∀ j, y < j → j < c - 1 → val T x y < val T x j := by
        constructor
        · exact fun h => ⟨h (c - 1) (by omega) (by omega), fun j a b => h j a (by omega)⟩
        · rintro ⟨h1, h2⟩ j a b
          by_cases z : j = c - 1
          · rw [z]; exact h1
          · exact h2 j a (by omega)
      by_cases ix : i = x
      · subst ix
        by_cases lt : val T i (c - 1) < val T i y
        · rw [if_pos lt]
          constructor
          · intro q
            obtain ⟨b1, _⟩ := go_bndR T (val T i y) f (i + 1) c
            have q : (go T (val T i y) f (i + 1) c).2 = _ := q
            rw [q] at b1
            have b1 : ((i + 1 : Nat) : Int) ≤ (i : Int) := b1
            omega
          · intro h
            have := (split.mp h).1
            omega
        · rw [if_neg lt]
          show (go T (val T i y) f i (c - 1)).2 = _ ↔ _
          rw [cols_go r f i (c - 1) (by omega) (Nat.le_refl _) (by omega) (by omega), split]
          exact ⟨fun h => ⟨by omega, h⟩, fun h => h.2⟩
      · by_cases lt : val T i (c - 1) < val T x y
        · rw [if_pos lt]
          exact cols_go r f (i + 1) c (by omega) (by omega) hc hn
        · rw [if_neg lt]
          show (go T (val T x y) f i (c - 1)).2 = _ ↔ _
          rw [cols_go r f i (c - 1) (by omega) hi (by omega) (by omega), split]
          have := r.up i x (c - 1) (by omega) hx (by omega)
          exact ⟨fun h => ⟨by omega, h⟩, fun h => h.2⟩
theorem isF_cols {T : Tab} {n x y : Nat} (r : ColsUp T n x y) : isF T n x y = true ↔ ∀ j, y < j → j < n → val T x y < val T x j := by
  unfold isF run
  rw [decide_eq_true_eq]
  exact cols_go r (T.length + n) 0 n (by omega) (Nat.zero_le _) r.hy (Nat.le_refl _)
end G

namespace G
open PySem PySem.Spec PyProof.Rows L2
/-- a row that rises, step by step -/
def upB (r : List Int) : Bool := (List.range (r.length - 1)).all fun i => decide (r.getD i 0 < r.getD (i + 1) 0)
theorem up_all {r : List Int} (h : upB r = true) : ∀ d i, i + d + 1 < r.length → r.getD i 0 < r.getD (i + d + 1) 0
  | 0, i, hi => of_decide_eq_true (List.all_eq_true.mp h i (List.mem_range.mpr (by omega)))
  | d + 1, i, hi => by
    have h1 := up_all h d i (by omega)
    have h2 : r.getD (i + d + 1) 0 < r.getD (i + d + 1 + 1) 0 := of_decide_eq_true (List.all_eq_true.mp h (i + d + 1) (List.mem_range.mpr (by omega)))
    show r.getD i 0 < r.getD (i + d + 1 + 1) 0
    omega
theorem up_iff {r : List Int} : upB r = true ↔ ∀ i j, i < j → j < r.length → r.getD i 0 < r.getD j 0 := by
  constructor
  · intro h i j hij hj
    have := up_all h (j - i - 1) i (by omega)
    rwa [show i + (j - i - 1) + 1 = j by omega] at this
  · intro h
    refine List.all_eq_true.mpr fun i hi => decide_eq_true (h i (i + 1) (by omega) ?_)
    have := List.mem_range.mp hi
    omega
/-- no two values equal, the rows and the columns rise -/
def riseB (T : Tab) (n : Nat) : Bool := decide T.flatten.Nodup && T.all upB && (turn T n).all upB
theorem flat_nodup {T : Tab} {n : Nat} (t : IsTab T n) : T.flatten.Nodup ↔ ∀ i j i' j', i < T.length → j < n → i' < T.length → j' < n → val T i j = val T i' j' → i = i' ∧ j = j' := by
  unfold List.Nodup
  rw [List.pairwise_flatten]
  constructor
  · rintro ⟨h1, h2⟩ i j i' j' hi hj hi' hj' e
    rw [t.val hi hj, t.val hi' hj'] at e
    have aux : ∀ a b (ha : a < T.length) (hb : b < T.length) c d (hc : c < T[a].length) (hd : d < T[b].length), a < b → T[a][c] = T[b][d] → False := fun a b ha hb c d hc hd hab e => List.pairwise_iff_getElem.mp h2 a b ha hb hab _ (List.getElem_mem hc) _ (List.getElem_mem hd) e
    by_cases lt : i < i'
    · exact absurd e fun e => aux i i' hi hi' j j' (by rw [t.row hi]; exact hj) (by rw [t.row hi']; exact hj') lt e
    · by_cases gt : i' < i
      · exact absurd e fun e => aux i' i hi' hi j' j (by rw [t.row hi']; exact hj') (by rw [t.row hi]; exact hj) gt e.symm
      · obtain rfl : i = i' := by omega
        refine ⟨rfl, ?_⟩
        have nd : T[i].Nodup := h1 _ (List.getElem_mem hi)
        exact (List.getElem_inj nd).mp e
  · intro h
    refine ⟨fun r hr => ?_, List.pairwise_iff_getElem.mpr fun i i' hi hi' hlt x hx y hy e => ?_⟩
    · obtain ⟨i, hi, rfl⟩ := List.mem_iff_getElem.mp hr
      refine List.pairwise_iff_getElem.mpr fun j j' hj hj' hlt e => ?_
      have rl := t.row hi
      have := (h i j i j' hi (by omega) hi (by omega) (by rw [t.val hi (by omega), t.val hi (by omega)]; exact e)).2
      omega
    · obtain ⟨j, hj, rfl⟩ := List.mem_iff_getElem.mp hx
      obtain ⟨j', hj', rfl⟩ := List.mem_iff_getElem.mp hy
      have rl := t.row hi
      have rl' := t.row hi'
      have := (h i j i' j' hi (by omega) hi' (by omega) (by rw [t.val hi (by omega), t.val hi' (by omega)]; exact e)).1
      omega
theorem turn_row {T : Tab} {n j : Nat} (hj : j < (turn T n).length) : (turn T n)[j].length = T.length := by
  simp [turn]
theorem rise_iff {T : Tab} {n : Nat} (t : IsTab T n) : riseB T n = true ↔ Rise T n := by
  have tl := turn_len T n
  unfold riseB
  rw [Bool.and_eq_true, Bool.and_eq_true, decide_eq_true_iff, flat_nodup t, List.all_eq_true, List.all_eq_true]
  constructor
  · rintro ⟨⟨h1, h2⟩, h3⟩
    refine ⟨fun i j j' hi hj hj' => ?_, fun i i' j hi hi' hj => ?_, h1⟩
    · have := up_iff.mp (h2 _ (List.getElem_mem hi)) j j' hj (by rw [t.row hi]; exact hj')
      unfold val
      rwa [G.getD_at hi]
    · have hj2 : j < (turn T n).length := by rw [tl]; exact hj
      have := up_iff.mp (h3 _ (List.getElem_mem hj2)) i i' hi (by rw [turn_row hj2]; exact hi')
      rw [← turn_val (T := T) (n := n) (by omega : i < T.length) hj, ← turn_val (T := T) (n := n) hi' hj]
      unfold val
      rwa [G.getD_at hj2]
  · intro r
    refine ⟨⟨r.one, fun x hx => ?_⟩, fun x hx => ?_⟩
    · obtain ⟨i, hi, rfl⟩ := List.mem_iff_getElem.mp hx
      refine up_iff.mpr fun j j' hj hj' => ?_
      have := r.row i j j' hi hj (by rw [← t.row hi]; exact hj')
      unfold val at this
      rwa [G.getD_at hi] at this
    · obtain ⟨j, hj, rfl⟩ := List.mem_iff_getElem.mp hx
      have hjn : j < n := by rw [← tl]; exact hj
      refine up_iff.mpr fun i i' hi hi' => ?_
      have hi'' : i' < T.length := by rw [← turn_row hj]; exact hi'
      have := r.col i i' j hi hi'' hjn
      rw [← turn_val (T := T) (n := n) (by omega : i < T.length) hjn, ← turn_val (T := T) (n := n) hi'' hjn] at this
      unfold val at this
      rwa [G.getD_at hj] at this
/-- the three ways in which it is told -/
theorem all_due {T : Tab} {n : Nat} (t : IsTab T n) : decide (((foundIn T n).length : Int) = (T.length : Int) * (n : Int)) = riseB T n := by
  refine Bool.eq_iff_iff.mpr ?_
  rw [decide_eq_true_iff, rise_iff t, ← all_rise t]
  rw [← Int.natCast_mul]
  exact ⟨fun h => Int.ofNat.inj h, fun h => by rw [h]⟩
theorem below_due {T : Tab} {n : Nat} (t : IsTab T n) {qs : List (Nat × Nat)} (h : qs.length = (foundIn (turn T n) T.length).length) : decide ((qs.length : Int) = (T.length : Int) * (n : Int)) = riseB T n := by
  have z := all_due (turn_is t)
  rw [turn_len] at z
  rw [h, Int.mul_comm, z]
  refine Bool.eq_iff_iff.mpr ?_
  rw [rise_iff (turn_is t), rise_iff t, turn_rise]
end G

namespace G
open PySem PySem.Spec PyProof.Rows L2
section
variable {X : Cx} {ρ : List SD} {M : Mem} {Q : Kn} {pos : Pos} {elt : Expr} {scope : Scope} {t : Tg} {vs : List Nat}
/-- [list(row) for row in table] -/
theorem lc_rows (T : Tab) (hT : T.length ≤ 1000) (turn : ∀ i (hi : i < T.length), ∃ ρ2, t.put (wipeR ρ vs) (.pu (rowD T[i])) = some ρ2 ∧ ∀ Y, Blk X scope Y → ∀ (M' : Mem) (Q' : Kn), (∀ l, Q' (.rf (.ref l)) ((l, .lst (pints T[i])) :: M')) → GE Y ρ2 M' elt Q')
    (fin : ∀ l (rows : List (Addr × List Int)) (M' : Mem), rows.map (·.2) = T → M'.Perm (rows.map rowM ++ M) → Q (.rf (.ref l)) ((l, .lst (rows.map rowR)) :: M')) : LComp X scope ρ vs t [] elt Q (T.map rowD).length (nth (T.map rowD)) M := by
  rw [List.length_map]
  refine ⟨by omega, fun i acc M' => ∃ rows : List (Addr × List Int), acc = rows.map rowR ∧ rows.map (·.2) = T.take i ∧ M'.Perm (rows.map rowM ++ M), ⟨[], rfl, rfl, .refl _⟩, fun i acc M' hi _ h => ?_, fun acc M' hal h l => ?_⟩
  · obtain ⟨rows, rfl, h2, h3⟩ := h
    rw [nth_map rowD [] hi, G.getD_at hi]
    obtain ⟨ρ2, e, tn⟩ := turn i hi
    refine ⟨ρ2, e, fun Y hY => gts_nil (iteT fun Y2 hY2 => tn Y2 hY2 _ _ fun l => ⟨rows ++ [(l, T[i])], ?_, ?_, ?_⟩)⟩
    · rw [List.map_append]
      rfl
    · rw [List.map_append, h2, List.take_add_one, List.getElem?_eq_getElem hi]
      rfl
    · rw [List.map_append, List.append_assoc]
      have h4 : ((l, MO.lst (pints T[i])) :: M').Perm ((l, MO.lst (pints T[i])) :: (rows.map rowM ++ M)) := List.Perm.cons _ h3
      refine h4.trans ?_
      show ((l, MO.lst (pints T[i])) :: (rows.map rowM ++ M)).Perm (rows.map rowM ++ ((l, MO.lst (pints T[i])) :: M))
      exact List.perm_middle.symm
  · obtain ⟨rows, rfl, h2, h3⟩ := h
    rw [List.take_length] at h2
    exact fin l rows M' h2 h3
end
theorem pick_mem {xs : List SD} (n : Nat) (h : 0 < xs.length) : ∃ r, atI xs ((n : Int) % (xs.length : Int)) = some r ∧ r ∈ xs := by
  have hl : n % xs.length < xs.length := Nat.mod_lt n h
  refine ⟨xs[n % xs.length], ?_, List.getElem_mem hl⟩
  rw [show (n : Int) % (xs.length : Int) = ((n % xs.length : Nat) : Int) by rw [Int.natCast_emod]]
  exact atI_nat (List.getElem?_eq_getElem hl)
theorem rows_set {T : Tab} {rows : List (Addr × List Int)} {i j : Nat} {x : Int} (e : rows.map (·.2) = T) (hi : i < rows.length) : ∃ R1 d R2, rows = R1 ++ d :: R2 ∧ R1.length = i ∧ rows[i] = d ∧ (R1 ++ (d.1, d.2.set j x) :: R2).map (·.2) = setT T i j x := by
  obtain ⟨R1, R2, eR, lR⟩ := rows_cut rows hi
  refine ⟨R1, rows[i], R2, eR, lR, rfl, ?_⟩
  have hiT : i < T.length := by rw [← e, List.length_map]; exact hi
  have e2 : T[i] = rows[i].2 := by subst e; rw [List.getElem_map]
  unfold setT
  rw [G.getD_at hiT, e2]
  generalize rows[i] = d at eR
  subst eR
  rw [← e, List.map_append, List.map_append, List.map_cons, List.map_cons, ← lR]
  have e3 : R1.length = (R1.map (·.2)).length := by rw [List.length_map]
  rw [e3, List.set_append_right _ _ (Nat.le_refl _), Nat.sub_self]
  rfl
theorem eqv_bool (a b : Bool) : PyData.eqv (.bool a) (.bool b) = decide (a = b) := by cases a <;> cases b <;> rfl
theorem eqv_tab (A B : Tab) : PyData.eqv (tab A) (tab B) = decide (A = B) := by
  have hr : ∀ r s : List Int, PyData.eqvAll (r.map .int) (s.map .int) = decide (r = s) := by
    intro r
    induction r with
    | nil => intro s; cases s <;> simp [PyData.eqvAll]
    | cons x r ih =>
      intro s
      cases s with
      | nil => simp [PyData.eqvAll]
      | cons y s =>
        simp only [List.map_cons, PyData.eqvAll, ih, eqv_int]
        by_cases h1 : x = y <;> by_cases h2 : r = s <;> simp [h1, h2]
  have h : ∀ A B : Tab, PyData.eqvAll (A.map rowD) (B.map rowD) = decide (A = B) := by
    intro A
    induction A with
    | nil => intro B; cases B <;> simp [PyData.eqvAll]
    | cons r A ih =>
      intro B
      cases B with
      | nil => simp [PyData.eqvAll]
      | cons s B =>
        have e : PyData.eqv (rowD r) (rowD s) = decide (r = s) := by
          show PyData.eqv (.list _) (.list _) = _
          simp only [PyData.eqv]
          exact hr r s
        simp only [List.map_cons, PyData.eqvAll, ih, e]
        by_cases h1 : r = s <;> by_cases h2 : A = B <;> simp [h1, h2]
  show PyData.eqv (.list _) (.list _) = _
  simp only [PyData.eqv]
  exact h A B
end G

namespace G
open PySem PySem.Spec PyProof.Rows L2
/-! ### written data -/
def litL (g : Expr → Option PyData) : List Expr → Option (List PyData)
  | [] => some []
  | e :: es => match g e, litL g es with
    | some d, some ds => some (d :: ds)
    | _, _ => none
def litD : Nat → Expr → Option PyData
  | 0, _ => none
  | f + 1, e => match e with
    | .Constant (.int i) _ _ => some (.int i)
    | .Constant (.bool b) _ _ => some (.bool b)
    | .Constant .none _ _ => some .none
    | .Constant (.str x) _ _ => some (.str x)
    | .UnaryOp .USub (.Constant (.int i) _ _) _ => some (.int (-i))
    | .List es _ => match litL (litD f) es with
      | some ds => if ds.length ≤ 1000 then some (.list ds) else none
      | none => none
    | .Tuple es _ _ => match litL (litD f) es with
      | some ds => if ds.length ≤ 1000 then some (.tuple ds) else none
      | none => none
    | _ => none
def plainE : Expr → Bool
  | .Starred _ _ => false
  | _ => true
theorem lit_plain {f : Nat} {e : Expr} {d : PyData} (h : litD f e = some d) : plainE e = true := by
  cases f with
  | zero => cases h
  | succ f => cases e <;> first | rfl | cases h
theorem star_plain {e : Expr} (h : plainE e = true) (es : List Expr) (env : Env) : starEach (e :: es) env = (false, eval e env) :: starEach es env := by
  cases e <;> first | rfl | cases h
theorem glit_all {X : Cx} {ρ : List SD} {f : Nat} (ih : ∀ (e : Expr) (d : PyData), litD f e = some d → ∀ (M : Mem) (Q : Kn), Q (.pu d) M → GE X ρ M e Q) : ∀ (es : List Expr) (ds : List PyData), litL (litD f) es = some ds → ∀ (M : Mem) (QA : List SD → Mem → Prop), QA (ds.map .pu) M → GA X ρ M es QA
  | [], ds, h, M, QA, q => by
    cases h
    exact anil q
  | e :: es, ds, h, M, QA, q => by
    unfold litL at h
    cases h1 : litD f e with
    | none =>
      rw [h1] at h
      cases h
    | some d =>
      cases h2 : litL (litD f) es with
      | none =>
        rw [h1, h2] at h
        cases h
      | some ds' =>
        rw [h1, h2] at h
        cases h
        exact acons (ih e d h1 M _ (glit_all ih es ds' h2 M _ q)) (star_plain (lit_plain h1) es X.env)
theorem glitN {X : Cx} {ρ : List SD} : ∀ (f : Nat) (e : Expr) (d : PyData), litD f e = some d → ∀ (M : Mem) (Q : Kn), Q (.pu d) M → GE X ρ M e Q
  | 0, e, d, h, M, Q, q => by cases h
  | f + 1, e, d, h, M, Q, q => by
    have ih := glitN (X := X) (ρ := ρ) f
    unfold litD at h
    split at h
    · cases h; exact gi q
    · cases h; exact gbl q
    · cases h; exact gnon q
    · cases h; exact gstr q
    · cases h; exact gneg (gi ⟨_, rfl, q⟩)
    · next es p =>
      cases h2 : litL (litD f) es with
      | none => rw [h2] at h; cases h
      | some ds =>
        rw [h2] at h
        dsimp only at h
        split at h
        · next hl =>
          cases h
          exact gz (glst (glit_all ih es ds h2 M _ ⟨by rw [List.length_map]; omega, fun l => ⟨l, ds, M, rfl, rfl, q⟩⟩))
        · cases h
    · next es k p =>
      cases h2 : litL (litD f) es with
      | none => rw [h2] at h; cases h
      | some ds =>
        rw [h2] at h
        dsimp only at h
        split at h
        · next hl =>
          cases h
          exact gtup (glit_all ih es ds h2 M _ ⟨ds, rfl, by omega, q⟩)
        · cases h
    · cases h
theorem hfs_list {elts : List Expr} {p : Pos} {env : Env} : ∀ x, foldedSetIterable (.List elts p) env x = pure x := fun _ => rfl
/-- written data as a value -/
theorem glit {X : Cx} {ρ : List SD} {M : Mem} {Q : Kn} {e : Expr} (d : PyData) (h : litD 6 e = some d) (q : Q (.pu d) M) : GE X ρ M e Q := glitN 6 e d h M Q q
end G

namespace G
open PySem PySem.Spec PyProof.Rows L2
/-! ### min(rows, key=len): the first of the shortest -/
/-- place i is that of the first shortest one below m -/
def Best (rows : List (List Value)) (m i : Nat) : Prop := ∃ r, rows[i]? = some r ∧ i < m ∧ ∀ (j : Nat) (t : List Value), j < m → rows[j]? = some t → r.length ≤ t.length ∧ (j < i → r.length < t.length)
structure RowsIn (h : Heap) (as : List Addr) (rows : List (List Value)) : Prop where
  len : as.length = rows.length
  at_ : ∀ (j : Nat) (a : Addr) (r : List Value), as[j]? = some a → rows[j]? = some r → LAt h a r
  fit : ∀ r ∈ rows, r.length ≤ sizeLine
theorem RowsIn.keep {h h' : Heap} {as : List Addr} {rows : List (List Value)} (x : RowsIn h as rows) (k : ∀ a ∈ as, ∀ o, h.get? a = some o → h'.get? a = some o) : RowsIn h' as rows :=
  ⟨x.len, fun j a r h1 h2 => (x.at_ j a r h1 h2).keep (k a (List.mem_of_getElem? h1)), x.fit⟩
section
variable {prog : Program} {w : World} {A : Around} {E : Value → Shared → Prop}
theorem len_turn {s : Shared} {a : Addr} {r : List Value} {Q : Value → Shared → Prop} (hl : LAt s.heap a r) (hz : r.length ≤ sizeLine) (q : ∀ t, Q (.int (r.length : Int) t) { s with toks := s.toks + 1 + 1 }) : wpAny (model prog w) A (call (.builtin "len") [.ref a]) Q E s := by
  have z := line63
  refine Calls.call_len_list hl.isList (by simp only [List.size_toArray]; omega) ?_
  rw [List.size_toArray]
  exact q _
/-- where the loop stands: m rows looked at, the best is at i -/
structure Mid (h0 h : Heap) (l I S : Addr) (as : List Addr) (rows : List (List Value)) (m i : Nat) : Prop where
  keep : ∀ b o, h0.get? b = some o → h.get? b = some o
  it : h.IsListIter I l m
  box : ∃ a r t c, as[i]? = some a ∧ rows[i]? = some r ∧ h.get? S = some (seqObj "list" #[.ref a, .int (r.length : Int) t] c)
  best : Best rows m i
theorem min_go (hh : A.handled = none) {s : Shared} {l I S : Addr} {as : List Addr} {rows : List (List Value)} {R : Result → Shared → Prop} (hI : s.heap.get? I = none) (hS : s.heap.get? S = none) (hIS : S ≠ I) (ll : LAt s.heap l (as.map Value.ref)) (rr : RowsIn s.heap as rows)
    (fin : ∀ i a h' tk, as[i]? = some a → Best rows rows.length i → (∀ b o, s.heap.get? b = some o → h'.get? b = some o) → R (.ok (.ret (.ref a))) { s with heap := h', toks := tk }) :
    ∀ (d m i : Nat) (h : Heap) (tk : Nat), m + d = rows.length → Mid s.heap h l I S as rows m i → codeAny (model prog w) A (.builtin "min.loop" ⟨[.ref I, .builtin "len", .ref S], []⟩) R { s with heap := h, toks := tk } := by
  have nm : (toString "min" ++ toString ".loop" : String) = "min.loop" := by decide
  have walk := Walks.list (prog := prog) (w := w) (A := A.in1) hh I l (fun e => by rw [e] at ll; obtain ⟨n, z⟩ := ll; rw [hI] at z; cases z) (as.map Value.ref).toArray
  have sz : (as.map Value.ref).toArray.size = rows.length := by rw [List.size_toArray, List.length_map, rr.len]
  have off : ∀ {b : Addr} {o : Obj}, s.heap.get? b = some o → b ≠ I ∧ b ≠ S := fun {b o} e => ⟨fun z => (by rw [z, hI] at e; cases e), fun z => (by rw [z, hS] at e; cases e)⟩
  intro d
  induction d with
  | zero =>
    intro m i h tk hd st
    obtain ⟨a, r, t, c, ha, hr, hb⟩ := st.box
    have em : m = rows.length := hd
    refine codeAny_builtin PySem.F.entry_min_loop ?_
    rw [Around.under_plainId PySem.F.plain_min_loop _]
    show wpAny _ (A.in1) (seqItems? (Value.ref S) >>= _) _ _ _
    refine wpAny_bind (wpAny_seqItems hb rfl ?_)
    show wpAny _ (A.in1) (tryCatch (pyNext (Value.ref I)) _ >>= _) _ _ _
    refine wpAny_bind (wpAny_tryCatch (walk.done _ _ _ ⟨(by rw [sz, ← em]; exact st.it), (ll.keep fun o => st.keep l o).isList⟩ fun h1 tk1 k1 => ?_))
    have b1 := k1 S _ (by simpa using hIS) hb
    have sb := Heap.SameBut.update h1 S (Obj.mapSeq fun _ => (#[] : Array Value))
    show wpAny _ (A.in1) (updateSeq S (fun _ => #[]) >>= _) _ _ _
    refine wpAny_bind (wpAny_updateSeq b1 rfl (wpAny_bind (wpAny_letGo (wpAny_pure ?_))))
    exact fin i a _ _ ha (em ▸ st.best) fun b o e => (sb.2 b (off e).2).trans (k1 b o (by simpa using (off e).1) (st.keep b o e))
  | succ d ih =>
    intro m i h tk hd st
    obtain ⟨a, r, t, c, ha, hr, hb⟩ := st.box
    have hm : m < rows.length := by omega
    have hma : m < as.length := by rw [rr.len]; exact hm
    refine codeAny_builtin PySem.F.entry_min_loop ?_
    rw [Around.under_plainId PySem.F.plain_min_loop _]
    show wpAny _ (A.in1) (seqItems? (Value.ref S) >>= _) _ _ _
    refine wpAny_bind (wpAny_seqItems hb rfl ?_)
    show wpAny _ (A.in1) (tryCatch (pyNext (Value.ref I)) _ >>= _) _ _ _
    refine wpAny_bind (wpAny_tryCatch (walk.item m _ _ _ (by rw [sz]; exact hm) ⟨st.it, (ll.keep fun o => st.keep l o).isList⟩ fun v h1 tk1 gv st1 k1 => ?_))
    have ev : v = Value.ref as[m] := by
      have gv : (as.map Value.ref).toArray[m]? = some v := gv
      simp [hma] at gv
      exact gv.symm
    subst ev
    obtain ⟨oI, gI, cI, dI⟩ := id st1.1
    have b1 := k1 S _ (by simpa using hIS) hb
    have kp1 : ∀ b o, s.heap.get? b = some o → h1.get? b = some o := fun b o e => k1 b o (by simpa using (off e).1) (st.keep b o e)
    have er : rows[m]? = some rows[m] := List.getElem?_eq_getElem hm
    have ea : as[m]? = some as[m] := List.getElem?_eq_getElem hma
    show wpAny _ (A.in1) (tryCatch (holding [Value.ref as[m]] (call (Value.builtin "len") [Value.ref as[m]])) _ >>= _) _ _ _
    refine wpAny_bind (wpAny_tryCatch (wpAny_holding (len_turn (r := rows[m]) ((rr.at_ m _ _ ea er).keep fun o => kp1 _ o) (rr.fit _ (List.getElem_mem hm)) fun t2 => ?_)))
    show wpAny _ (A.in1) (tryCatch (holding [Value.ref as[m], Value.int (rows[m].length : Int) t2] (richCompare .Lt (Value.int (rows[m].length : Int) t2) (Value.int (r.length : Int) t) >>= _)) _ >>= _) _ _ _
    refine wpAny_bind (wpAny_tryCatch (wpAny_holding (wpAny_bind (CmpOf.ints_lt (prog := prog) (w := w) (A := A.in1) (P := fun (x : Nat) v => ∃ t, v = Value.int (x : Int) t) (fun x : Nat => (x : Int)) (fun x v h => h) rows[m].length r.length _ _ _ _ _ ⟨t2, rfl⟩ ⟨t, rfl⟩ ?_))))
    refine wpAny_bind (wpAny_holding (wpAny_truthy_bool (wpAny_bind (wpAny_letGo (wpAny_pure ?_)))))
    obtain ⟨r', hr', hi', hbest⟩ := st.best
    have e' : r' = r := Option.some.inj (hr'.symm.trans hr)
    subst e'
    by_cases less : (rows[m].length : Int) < (r'.length : Int)
    · have sb := Heap.SameBut.update h1 S (Obj.mapSeq fun _ => #[Value.ref as[m], Value.int (rows[m].length : Int) t2])
      simp only [less, decide_true, if_true]
      refine wpAny_bind (wpAny_updateSeq b1 rfl (wpAny_bind (wpAny_letGo ?_)))
      rw [nm]
      refine wpAny_pure ⟨plainId_quiet PySem.F.plain_min_loop _, ih (m + 1) m _ _ (by omega) ⟨fun b o e => (sb.2 b (off e).2).trans (kp1 b o e), ⟨oI, (sb.2 I hIS.symm).trans gI, cI, dI⟩, ⟨_, _, t2, _, ea, er, get?_update_seq b1 fun _ => #[Value.ref as[m], Value.int (rows[m].length : Int) t2]⟩, rows[m], er, Nat.lt_succ_self m, fun j u hj hu => ?_⟩⟩
      by_cases ej : j = m
      · subst ej
        have eu : rows[j] = u := Option.some.inj (er.symm.trans hu)
        rw [eu]
        exact ⟨Nat.le_refl _, fun z => absurd z (Nat.lt_irrefl _)⟩
      · have z := (hbest j u (by omega) hu).1
        exact ⟨by omega, fun _ => by omega⟩
    · simp only [less, decide_false, Bool.false_eq_true, if_false]
      refine wpAny_bind (wpAny_letGo ?_)
      rw [nm]
      refine wpAny_pure ⟨plainId_quiet PySem.F.plain_min_loop _, ih (m + 1) i _ _ (by omega) ⟨kp1, ⟨oI, gI, cI, dI⟩, ⟨a, r', t, c, ha, hr, b1⟩, r', hr, by omega, fun j u hj hu => ?_⟩⟩
      by_cases ej : j = m
      · subst ej
        have eu : rows[j] = u := Option.some.inj (er.symm.trans hu)
        rw [← eu]
        exact ⟨by omega, fun z => by omega⟩
      · exact hbest j u (by omega) hu
theorem min_len (hh : A.handled = none) {s : Shared} {l : Addr} {as : List Addr} {rows : List (List Value)} {Q : Value → Shared → Prop} (ll : LAt s.heap l (as.map Value.ref)) (rr : RowsIn s.heap as rows) (h0 : 0 < rows.length)
    (fin : ∀ i a h' tk, as[i]? = some a → Best rows rows.length i → (∀ b o, s.heap.get? b = some o → h'.get? b = some o) → Q (.ref a) { s with heap := h', toks := tk }) :
    wpAny (model prog w) A (call (.builtin "min") [.ref l] [(Str.ofString "key", .builtin "len")]) Q E s := by
  have nm : (toString "min" ++ toString ".loop" : String) = "min.loop" := by decide
  refine kmb_tree PySem.F.kind_min PySem.F.plain_min PySem.F.entry_min (kmb_min_key _ _) ?_
  show wpAny _ (A.in1) (Builtin.Builtins.bindParams "min" ["key", "default"] 0 ⟨[], [(Str.ofString "key", Value.builtin "len")]⟩ >>= _) _ _ s
  refine wpAny_bind (wpAny_of_eq (show Builtin.Builtins.bindParams "min" ["key", "default"] 0 ⟨[], [(Str.ofString "key", Value.builtin "len")]⟩ = pure [some (Value.builtin "len"), none] from rfl) ?_)
  refine wpAny_bind (wpAny_pure (wpAny_bind (wpAny_pyIter_list ll.isList (wpAny_bind (wpAny_newList ?_ (Nat.zero_le _))))))
  rw [nm]
  have hma : 0 < as.length := by rw [rr.len]; exact h0
  generalize eI : s.heap.objs.size = I
  have e1 : (s.heap.push { cls := .type "list_iterator", data := .fields #[.ref l, .int 0 0] }).objs.size = I + 1 := by rw [size_push', eI]
  have gI0 : (s.heap.push { cls := .type "list_iterator", data := .fields #[.ref l, .int 0 0] }).get? I = some { cls := .type "list_iterator", data := .fields #[.ref l, .int 0 0] } := by
    rw [← eI]
    exact Heap.get?_push_size _ rfl
  rw [e1]
  generalize hh0 : (s.heap.push { cls := .type "list_iterator", data := .fields #[.ref l, .int 0 0] }) = hp at e1 gI0
  have hpk : ∀ b o, s.heap.get? b = some o → hp.get? b = some o := fun b o e => by
    rw [← hh0]
    exact Heap.get?_push_of_some _ e
  generalize hh1 : hp.push (seqObj "list" #[] 0) = hq
  have hqk : ∀ b o, hp.get? b = some o → hq.get? b = some o := fun b o e => by
    rw [← hh1]
    exact Heap.get?_push_of_some _ e
  have gS : hq.get? (I + 1) = some (seqObj "list" #[] 0) := by
    rw [← hh1, ← e1]
    exact Heap.get?_push_size _ rfl
  have gI := hqk I _ gI0
  have nI : s.heap.get? I = none := Heap.get?_none_of_le (by rw [eI]; exact Nat.le_refl I)
  have nS : s.heap.get? (I + 1) = none := Heap.get?_none_of_le (by rw [eI]; exact Nat.le_succ I)
  have hIS : I + 1 ≠ I := Nat.succ_ne_self I
  have off : ∀ {b : Addr} {o : Obj}, s.heap.get? b = some o → b ≠ I ∧ b ≠ I + 1 := fun {b o} e => ⟨fun z => (by rw [z, nI] at e; cases e), fun z => (by rw [z, nS] at e; cases e)⟩
  have walk := Walks.list (prog := prog) (w := w) (A := A.in1) hh I l (off ll.choose_spec).1 (as.map Value.ref).toArray
  have sz : (as.map Value.ref).toArray.size = rows.length := by rw [List.size_toArray, List.length_map, rr.len]
  refine wpAny_pure ⟨plainId_quiet PySem.F.plain_min_loop _, ?_⟩
  refine codeAny_builtin PySem.F.entry_min_loop ?_
  rw [Around.under_plainId PySem.F.plain_min_loop _]
  show wpAny _ (A.in1) (seqItems? (Value.ref (I + 1)) >>= _) _ _ _
  refine wpAny_bind (wpAny_seqItems gS rfl ?_)
  show wpAny _ (A.in1) (tryCatch (pyNext (Value.ref I)) _ >>= _) _ _ _
  refine wpAny_bind (wpAny_tryCatch (walk.item 0 _ _ _ (by rw [sz]; exact h0) ⟨⟨_, gI, rfl, rfl⟩, (ll.keep fun o e => hqk _ o (hpk _ o e)).isList⟩ fun v h1 tk1 gv st1 k1 => ?_))
  have ev : v = Value.ref as[0] := by
    have gv : (as.map Value.ref).toArray[0]? = some v := gv
    simp [hma] at gv
    exact gv.symm
  subst ev
  obtain ⟨oI, g2, cI, dI⟩ := id st1.1
  have b1 := k1 (I + 1) _ (by simpa using hIS) gS
  have kp1 : ∀ b o, s.heap.get? b = some o → h1.get? b = some o := fun b o e => k1 b o (by simpa using (off e).1) (hqk b o (hpk b o e))
  have er : rows[0]? = some rows[0] := List.getElem?_eq_getElem h0
  have ea : as[0]? = some as[0] := List.getElem?_eq_getElem hma
  show wpAny _ (A.in1) (tryCatch (holding [Value.ref as[0]] (call (Value.builtin "len") [Value.ref as[0]])) _ >>= _) _ _ _
  refine wpAny_bind (wpAny_tryCatch (wpAny_holding (len_turn (r := rows[0]) ((rr.at_ 0 _ _ ea er).keep fun o => kp1 _ o) (rr.fit _ (List.getElem_mem h0)) fun t2 => ?_)))
  have sb := Heap.SameBut.update h1 (I + 1) (Obj.mapSeq fun _ => #[Value.ref as[0], Value.int (rows[0].length : Int) t2])
  show wpAny _ (A.in1) (updateSeq (I + 1) (fun _ => #[Value.ref as[0], Value.int (rows[0].length : Int) t2]) >>= _) _ _ _
  refine wpAny_bind (wpAny_updateSeq b1 rfl ?_)
  rw [nm]
  refine wpAny_pure ⟨plainId_quiet PySem.F.plain_min_loop _, min_go hh nI nS hIS ll rr fin (rows.length - 1) 1 0 _ _ (by omega) ⟨fun b o e => (sb.2 b (off e).2).trans (kp1 b o e), ⟨oI, (sb.2 I hIS.symm).trans g2, cI, dI⟩, ⟨_, _, t2, _, ea, er, get?_update_seq b1 fun _ => #[Value.ref as[0], Value.int (rows[0].length : Int) t2]⟩, rows[0], er, Nat.lt_succ_self 0, fun j u hj hu => ?_⟩⟩
  have ej : j = 0 := by omega
  subst ej
  rw [Option.some.inj (er.symm.trans hu)]
  exact ⟨Nat.le_refl _, fun z => absurd z (Nat.lt_irrefl _)⟩
end
end G
namespace G
open PySem PySem.Spec PyProof.Rows L2
section
variable {X : Cx} {ρ : List SD} {M : Mem} {Q : Kn} {pos p p2 kp : Pos} {e : Expr}
abbrev RowsV (H : Hp) (as : List Addr) (rows : List (List V)) : Prop := Paired (fun (a : Addr) r => H a = some (HO.lst r)) as rows
theorem rowsIn_of {pins : List (Addr × Obj)} {σ : L2.St} {H : Hp} {s : Shared} (I : Inv X pins σ H s) : ∀ {as : List Addr} {rows : List (List V)}, RowsV H as rows → ∃ rv : List (List Value), Paired (fun (r : List V) (t : List Value) => r.length = t.length) rows rv ∧ RowsIn s.heap as rv
  | [], _, .nil => ⟨[], .nil, rfl, fun j a r h => by simp at h, fun r h => absurd h List.not_mem_nil⟩
  | a :: as, r :: rows, .cons h t => by
    obtain ⟨rv, h1, h2⟩ := rowsIn_of I t
    obtain ⟨z, its, n, g1, g2, g3⟩ := I.lstM h
    refine ⟨its :: rv, .cons g1.length h1, by rw [List.length_cons, List.length_cons, h2.len], fun j a' r' e1 e2 => ?_, fun r' hr => ?_⟩
    · cases j with
      | zero =>
        have e1 : a = a' := Option.some.inj e1
        have e2 : its = r' := Option.some.inj e2
        subst e1 e2
        exact ⟨n, g3⟩
      | succ j => exact h2.at_ j a' r' (by simpa using e1) (by simpa using e2)
    · rcases List.mem_cons.mp hr with e | hr
      · rw [e, ← g1.length]
        exact z
      · exact h2.fit r' hr
theorem pair_at {α β : Type} {R : α → β → Prop} : ∀ {xs : List α} {ys : List β} {i : Nat} {y : β}, Paired R xs ys → ys[i]? = some y → ∃ x, xs[i]? = some x ∧ R x y
  | _, _, i, _, .nil, h => by simp at h
  | _, _, 0, _, .cons a b, h => by
    have e : _ = _ := Option.some.inj h
    subst e
    exact ⟨_, rfl, a⟩
  | _, _, i + 1, _, .cons a b, h => by
    obtain ⟨o, e1, e2⟩ := pair_at (i := i) b (by simpa using h)
    exact ⟨o, by simpa using e1, e2⟩
theorem pair_at' {α β : Type} {R : α → β → Prop} : ∀ {xs : List α} {ys : List β} {i : Nat} {x : α}, Paired R xs ys → xs[i]? = some x → ∃ y, ys[i]? = some y ∧ R x y
  | _, _, i, _, .nil, h => by simp at h
  | _, _, 0, _, .cons a b, h => by
    have e : _ = _ := Option.some.inj h
    subst e
    exact ⟨_, rfl, a⟩
  | _, _, i + 1, _, .cons a b, h => by
    obtain ⟨o, e1, e2⟩ := pair_at' (i := i) b (by simpa using h)
    exact ⟨o, by simpa using e1, e2⟩
def minCore (Q : VK) (x : V) (H1 : Hp) : Prop := ∃ (l : Addr) (as : List Addr) (rows : List (List V)), x = .ref l ∧ H1 l = some (.lst (as.map V.ref)) ∧ RowsV H1 as rows ∧ 0 < rows.length ∧
  ∀ (i : Nat) (a : Addr) (r : List V), as[i]? = some a → rows[i]? = some r → (∀ (j : Nat) (t : List V), rows[j]? = some t → r.length ≤ t.length ∧ (j < i → r.length < t.length)) → Q (.ref a) H1
def minArg (Q : VK) (vs : List V) (H1 : Hp) : Prop := match vs with
  | [x] => minCore Q x H1
  | _ => False
def tMinLen (te : TE) : TE := fun σ H Q => te σ H (minCore Q)
theorem pe_minLen {te : TE} (hc : X.calm = true) (hg : Gl X "min") (hm : X.mg "min" = none) (hg2 : Gl X "len") (hm2 : X.mg "len" = none) (he : PE X e te)
    (hse : starEach [e] X.env = (false, eval e X.env) :: starEach [] X.env) (hs : backTo pos (starEach [e] X.env) = (false, eval e X.env) :: backTo pos (starEach [] X.env)) (hpl : (backTo pos (starEach [e] X.env)).any (·.1) = false) : PE X (.Call (.Name "min" p) [e] [⟨some "key", .Name "len" p2, kp⟩] pos) (tMinLen te) := by
  refine ⟨fun pins s σ H Q I h => ?_⟩
  refine wpAny_Call_Name_kw (ld_blt I hg hm PyProof.Rows.boot_min ?_ (by decide) (by decide))
  refine PyProof.Rows.callWith_kw (thn ((pa_cons he pa_nil hse).run pos pins s σ H (minArg Q) I (show tCons te tNil σ H (minArg Q) from h)) fun us s1 ⟨vs, H1, I1, r1, q1⟩ => ?_) hs hpl rfl rfl
  show wpAny _ _ (evalAll ((do let v ← eval (.Name "len" p2) X.env; standAt pos; pure v) :: [])) _ _ s1
  refine wpAny_evalAll_cons (wpAny_bind (ld_blt I1 hg2 hm2 PySem.boot_len (wpAny_bind (wpAny_standAt (wpAny_pure (wpAny_evalAll_nil ?_)))) (by decide) (by decide)))
  match vs, q1, r1 with
  | [x], ⟨l, as, rows, ex, hl, hr, h0, q⟩, r1 =>
    subst ex
    obtain ⟨u, rfl, ru⟩ := vals1 r1
    have ru : u = Value.ref l := ru
    subst ru
    obtain ⟨z, its, n, g1, g2, g3⟩ := I1.lstM hl
    have e1 := refs_of g1
    subst e1
    obtain ⟨rv, h1, h2⟩ := rowsIn_of I1 hr
    have hlen : rows.length = rv.length := Paired.length h1
    refine min_len (I1.ok.hd hc) ⟨n, g3⟩ h2 (by rw [← hlen]; exact h0) fun i a h' tk ha hb hk => ⟨.ref a, H1, I1.kept hk, rfl, ?_⟩
    obtain ⟨t, ht, hi, hbest⟩ := hb
    obtain ⟨r, er, el⟩ := pair_at h1 ht
    refine q i a r ha er fun j u hu => ?_
    obtain ⟨t2, e2, el2⟩ := pair_at' h1 hu
    have z2 := hbest j t2 (List.getElem?_eq_some_iff.mp e2).1 e2
    rw [el, el2]
    exact z2
/-- min(lists, key=len), lists of data -/
theorem gminlen (hc : X.calm = true) (hm : X.mg "min" = none) (hm2 : X.mg "len" = none)
    (h : GE X ρ M e fun x M1 => ∃ dss : List (List PyData), x = .pu (.list (dss.map .list)) ∧ 0 < dss.length ∧ ∀ (i : Nat) (ds : List PyData), dss[i]? = some ds → (∀ (j : Nat) (t : List PyData), dss[j]? = some t → ds.length ≤ t.length ∧ (j < i → ds.length < t.length)) → Q (.pu (.list ds)) M1)
    (hg : Gl X "min" := by rfl) (hg2 : Gl X "len" := by rfl) (hse : starEach [e] X.env = (false, eval e X.env) :: starEach [] X.env := by rfl) (hs : backTo pos (starEach [e] X.env) = (false, eval e X.env) :: backTo pos (starEach [] X.env) := by rfl) (hpl : (backTo pos (starEach [e] X.env)).any (·.1) = false := by rfl) :
    GE X ρ M (.Call (.Name "min" p) [e] [⟨some "key", .Name "len" p2, kp⟩] pos) Q := .mk fun B F H σ Q' W S s => by
  refine wE_of (pe_minLen hc hg hm hg2 hm2 pE hse hs hpl) (h B F H σ (minCore Q') W S fun x M1 v F1 H1 hx W1 s1 vx => ?_)
  obtain ⟨dss, rfl, h0, q⟩ := hx
  have vx : Dt F1 v (.list (dss.map .list)) := vx
  cases vx with
  | lst g1 g2 =>
    obtain ⟨ls, rs, e1, e2, e3, e4⟩ := lists_of g2
    subst e1
    have hl3 : rs.length = dss.length := Paired.length e3
    refine ⟨_, ls, rs, rfl, W1.fh _ _ g1, rowsH_same W1.fh e2, by rw [hl3]; exact h0, fun i a r ha hr hb => ?_⟩
    obtain ⟨ds, hd, dd⟩ := pair_at' e3 hr
    obtain ⟨r2, hr2, hF⟩ := pair_at' e2 ha
    have er : r2 = r := Option.some.inj (hr2.symm.trans hr)
    subst er
    refine s _ M1 _ F1 H1 (q i ds hd fun j t ht => ?_) W1 s1 (.lst hF dd)
    obtain ⟨r3, h3, d3⟩ := pair_at e3 ht
    have z := hb j r3 h3
    rw [dd.length, d3.length] at z
    exact z
end
end G

namespace G
open PySem PySem.Spec PyProof.Rows L2
/-! ### dicts whose keys are tuples of ints -/
abbrev kI (ns : List Int) : List Key := ns.map Sum.inl
theorem kI_kV (ns : List Int) : (kI ns).map kV = ns.map V.int := by rw [List.map_map]; rfl
def valS (kvs : List (List Key × SD)) (k : List Key) : Option SD := (kvs.find? fun kv => decide (kv.1 = k)).map (·.2)
def putS (kvs : List (List Key × SD)) (k : List Key) (r : SD) : List (List Key × SD) :=
  if (kvs.any fun kv => decide (kv.1 = k)) = true then kvs.map (fun kv => if kv.1 = k then (kv.1, r) else kv) else kvs ++ [(k, r)]
theorem valS_rel {F : Hp} {vs : List (List Key × V)} {kvs : List (List Key × SD)} (h : Paired (DEnt F) vs kvs) {k : List Key} {r : SD} (e : valS kvs k = some r) : ∃ v, valV vs k = some v ∧ VOk F v r := by
  induction h with
  | nil => cases e
  | @cons a b as bs h t ih =>
    unfold valS at e
    unfold valV
    rw [List.find?_cons] at e ⊢
    rw [h.1]
    by_cases q : b.1 = k
    · rw [decide_eq_true q] at e ⊢
      have e : b.2 = r := Option.some.inj e
      subst e
      exact ⟨a.2, rfl, h.2⟩
    · rw [decide_eq_false q] at e ⊢
      exact ih e
theorem any_rel {F : Hp} {vs : List (List Key × V)} {kvs : List (List Key × SD)} (h : Paired (DEnt F) vs kvs) (k : List Key) : (vs.any fun kv => decide (kv.1 = k)) = (kvs.any fun kv => decide (kv.1 = k)) := by
  induction h with
  | nil => rfl
  | cons h t ih => rw [List.any_cons, List.any_cons, h.1, ih]
theorem putS_rel {F : Hp} {vs : List (List Key × V)} {kvs : List (List Key × SD)} (h : Paired (DEnt F) vs kvs) (k : List Key) {v : V} {r : SD} (hv : VOk F v r) : Paired (DEnt F) (putK vs k v) (putS kvs k r) := by
  unfold putK putS
  rw [any_rel h k]
  by_cases q : (kvs.any fun kv => decide (kv.1 = k)) = true
  · rw [if_pos q, if_pos q]
    clear q
    induction h with
    | nil => exact .nil
    | @cons a b as bs h t ih =>
      refine .cons ?_ ih
      show DEnt F (if a.1 = k then (a.1, v) else a) (if b.1 = k then (b.1, r) else b)
      rw [h.1]
      by_cases z : b.1 = k
      · rw [if_pos z, if_pos z]
        exact ⟨rfl, hv⟩
      · rw [if_neg z, if_neg z]
        exact h
  · rw [if_neg q, if_neg q]
    exact Paired.snoc h ⟨rfl, hv⟩
/-- a tuple of ints as data -/
abbrev tI (ns : List Int) : PyData := .tuple (ns.map .int)
theorem tI_at {F : Hp} {v : V} {ns : List Int} (h : Dt F v (tI ns)) : ∃ b, v = .ref b ∧ F b = some (.tup ((kI ns).map kV)) := by
  cases h with
  | tup h1 h2 =>
    rw [DtA.ints h2] at h1
    exact ⟨_, rfl, by rw [kI_kV]; exact h1⟩
section
variable {X : Cx} {ρ : List SD} {M : Mem} {Q : Kn} {pos pos' : Pos} {o i value k v : Expr} {D : GD}
/-- d[k] -/
theorem gdget (hu : X.A.units + 1 < cLine) (h : GE X ρ M o fun x M1 => GE X ρ M1 i fun y M2 => ∃ d kvs ns r, x = .rf (.ref d) ∧ (d, MO.dct kvs) ∈ M2 ∧ y = .pu (tI ns) ∧ valS kvs (kI ns) = some r ∧ Q r M2) (hs : NoSl i := by intro _ _; rfl) : GE X ρ M (.Subscript o i pos) Q := .mk fun B F H σ Q' W S s => by
  refine wE_of (pe_dget hu pE pE hs) (h B F H σ _ W S fun x M1 u F1 H1 hx W1 s1 vx => ?_)
  refine hx B F1 H1 σ _ W1 (pMono s1 S) fun y M2 w F2 H2 hy W2 s2 wy => ?_
  obtain ⟨d, kvs, ns, r, rfl, hm, rfl, hr, q⟩ := hy
  have vx : u = .ref d := vx
  subst vx
  obtain ⟨f1, vs, f2, f3⟩ := W2.mem _ hm
  obtain ⟨b, rfl, hb⟩ := tI_at wy
  obtain ⟨v, e1, e2⟩ := valS_rel f3 hr
  refine ⟨d, v, rfl, ?_, s r M2 v F2 H2 q W2 (s1.trans s2) e2⟩
  have z := DGet.t (kvs := vs) f2 (W2.fh _ _ hb)
  rw [e1] at z
  exact z
/-- d[k] = e -/
theorem sdput (hu : X.A.units + 1 < cLine) (h : GE X ρ M value fun z M1 => GE X ρ M1 o fun x M2 => GE X ρ M2 i fun y M3 => ∃ d kvs ns Ma Mb, x = .rf (.ref d) ∧ y = .pu (tI ns) ∧ M3 = Ma ++ (d, .dct kvs) :: Mb ∧ kvs.length < 1000 ∧ D.nx ρ (Ma ++ (d, .dct (putS kvs (kI ns) z)) :: Mb))
    (hs : swapsWith value (some (.Subscript o i pos')) pos.line X.env = pure false := by rfl) : GS X ρ M (.Assign [.Subscript o i pos'] value pos) D := .mk fun B F H σ D' W S s => by
  refine wS_of (ps_dput hu pE pE pE hs) (h B F H σ _ W S fun z M1 u F1 H1 hz W1 s1 vz => ?_)
  refine hz B F1 H1 σ _ W1 (pMono s1 S) fun x M2 w F2 H2 hx W2 s2 vx => ?_
  refine hx B F2 H2 σ _ W2 (pMono (s1.trans s2) S) fun y M3 t F3 H3 hy W3 s3 vy => ?_
  obtain ⟨d, kvs, ns, Ma, Mb, rfl, rfl, rfl, hl, q⟩ := hy
  have vx : w = .ref d := vx
  subst vx
  obtain ⟨f1, vs, f2, f3⟩ := W3.mem (d, .dct kvs) (by simp)
  obtain ⟨b, rfl, hb⟩ := tI_at vy
  have W4 := (W3.perm List.perm_middle).writeD (putS_rel f3 (kI ns) (SOk.mono (s2.trans s3) vz))
  refine ⟨d, _, rfl, DPut.t (kvs := vs) (k := kI ns) (v := u) f2 (W3.fh _ _ hb) (by rw [Paired.length f3]; exact Nat.lt_of_lt_of_le hl (by decide)), ?_⟩
  exact s.nx _ _ _ F3 _ q (W4.perm List.perm_middle.symm) ((s1.trans s2).trans s3) (pMono ((s1.trans s2).trans s3) S)
/-! {k: v} -/
def dispCore (Q : VK) (p : Addr) (ps : List (V × V)) (H2 : Hp) : Prop := match ps with
  | [(x, y)] => H2 p = some (.dT []) ∧ ∃ (b : Addr) (ks : List Key), x = .ref b ∧ H2 b = some (.tup (ks.map kV)) ∧ Q (.ref p) (upd H2 p (.dT [(ks, y)]))
  | _ => False
def tDisp1 (tk tv : TE) : TE := fun σ H Q => ∀ p, H p = none → tk σ (upd H p (.dT [])) fun x H1 => tv σ H1 fun y H2 => dispCore Q p [(x, y)] H2
theorem pe_disp1 {tk tv : TE} (hu : X.A.units + 1 < cLine) (hk : PE X k tk) (hv : PE X v tv) : PE X (.Dict [some k] [v] pos) (tDisp1 tk tv) := by
  refine ⟨fun pins s σ H Q I q => ?_⟩
  generalize ep : s.heap.objs.size = p at q
  have hn : H p = none := by
    rw [← ep]
    exact I.hok.fresh (Nat.le_refl s.heap.objs.size)
  have I1 := I.laid (a := s.heap.objs.size) (o := .dT []) (h' := s.heap.push { cls := .type "dict", data := .dict #[] }) (t' := s.toks) (fun _ _ q => Heap.get?_push_of_some _ q) (Nat.le_refl _) (dt_empty s.heap I.big)
  rw [ep] at I1
  have run := (pps_cons (pos := pos) hk hv pps_nil).run pins _ σ _ (dispCore Q p) I1 (q p hn)
  have hlen : (pairTrees [some k] [v] X.env pos).length = 1 := pairTrees_length [some k] [v] X.env pos rfl rfl
  rw [arm_eval_Dict, zip_pairTrees [some k] [v] X.env pos rfl rfl, dictDisplay_pairs (pairTrees [some k] [v] X.env pos) (fun z => by rw [z] at hlen; cases hlen) (by omega)]
  refine wpAny_bind (wpAny_standAt (wpAny_bind (wpAny_subDictH (knd := tupleKind (mixKind X.prog X.w)) (show X.A.units < cLine by omega) (by omega) (wpAny_mono run (fun ws s2 h2 => ?_) fun _ _ e => e))))
  obtain ⟨ps, H2, I2, rel, hc⟩ := h2
  match ps, rel, hc with
  | [(x, y)], rel, ⟨hp, b, ks, ex, hb, hq⟩ =>
    subst ex
    match ws, rel with
    | [(u, t)], .cons r1 .nil =>
      obtain ⟨ru, rt⟩ := r1
      have ru : u = Value.ref b := ru
      subst ru
      rw [ep]
      obtain ⟨z, hd, xs, r0, dd⟩ := dt_of I2.hok hp
      cases r0
      refine ⟨[(ks, b, t)], ⟨rfl, rfl, key_of I2.hok hb, trivial⟩, dd, fun h' tk2 dd' hs => wpAny_pure ⟨.ref p, _, ?_, rfl, hq⟩⟩
      obtain ⟨o, es, e2, ho, g2, g3, g4, _, g5⟩ := dd'
      refine d_write I2 (by rw [hp]; exact True.intro) hs ⟨o, ho⟩ ⟨by rw [sizeLine_eq]; show 1 ≤ _; omega, hd, [(ks, b, t)], .cons ⟨rfl, ?_, rt⟩ .nil, o, es, e2, ho, g2, g3, g4, g5⟩
      show upd H2 p _ b = _
      rw [upd_ne (ne_of hb hp (fun z => nomatch z))]
      exact hb
/-- {k: v}, k a tuple of ints -/
theorem gdisp1 (hu : X.A.units + 1 < cLine) (h : GE X ρ M k fun x M1 => GE X ρ M1 v fun y M2 => ∃ ns, x = .pu (tI ns) ∧ ∀ d, Q (.rf (.ref d)) ((d, .dct [(kI ns, y)]) :: M2)) : GE X ρ M (.Dict [some k] [v] pos) Q := .mk fun B F H σ Q' W S s => by
  refine wE_of (pe_disp1 hu pE pE) fun p hp => ?_
  have W0 : Wd B F (upd H p (.dT [])) (M ++ [(p, .dct [])]) := (W.newd hp).perm (List.perm_append_comm (l₁ := [(p, MO.dct [])]))
  have Wm := W0.sub (List.sublist_append_left M _)
  refine h (here F (upd H p (.dT [])) M) F _ σ _ Wm.here S fun x M1 u F1 H1 hx W1 s1 vx => ?_
  refine hx (here F1 H1 M1) F1 H1 σ _ W1.here (pMono s1 S) fun y M2 w F2 H2 hy W2 s2 wy => ?_
  obtain ⟨ns, rfl, q⟩ := hy
  have Wf := (W0.frame W1).frame W2
  have Wg := Wf.perm (List.perm_append_comm (l₂ := [(p, MO.dct [])]))
  obtain ⟨f1, vs, f2, f3⟩ := Wg.mem (p, .dct []) List.mem_cons_self
  cases f3
  obtain ⟨b, rfl, hb⟩ := tI_at (SOk.mono (o := some u) s2 vx)
  have W3 := Wg.writeD (ws := [(kI ns, w)]) (ys := [(kI ns, y)]) (.cons ⟨rfl, wy⟩ .nil)
  exact ⟨f2, b, kI ns, rfl, Wg.fh _ _ hb, s _ _ _ F2 _ (q p) W3 (s1.trans s2) rfl⟩
end
end G

namespace G
open PySem PySem.Spec PyProof.Rows L2
/-! ### routes from the corner and what has to be changed along them -/
def ndD (T : Tab) (k : Int) (i j : Nat) : List I3 := if k ≤ val T i j then [((i : Int), (j : Int), k - 1)] else []
def ndL (T : Tab) (k : Int) (i j : Nat) : List I3 := if val T i j ≤ k then [((i : Int), (j : Int), k + 1)] else []
def pick2 (a b : List I3) : List I3 := if b.length < a.length then b else a
def wayC (T : Tab) (n : Nat) (k : Int) : Nat → Nat → List I3
  | 0, 0 => []
  | 0, c + 1 => wayC T n k 0 c ++ ndL T k 0 (n - 1 - c)
  | i + 1, 0 => wayC T n k i 0 ++ ndD T k i (n - 1)
  | i + 1, c + 1 => pick2 (wayC T n k i (c + 1) ++ ndD T k i (n - 1 - (c + 1))) (wayC T n k (i + 1) c ++ ndL T k (i + 1) (n - 1 - c))
termination_by i c => (i, c)
def way (T : Tab) (n : Nat) (k : Int) (i j : Nat) : List I3 := wayC T n k i (n - 1 - j)
theorem way_corner (T : Tab) (n : Nat) (k : Int) : way T n k 0 (n - 1) = [] := by
  unfold way
  rw [Nat.sub_self]
  unfold wayC
  rfl
theorem way_top (T : Tab) {n : Nat} (k : Int) {j : Nat} (hj : j + 1 < n) : way T n k 0 j = way T n k 0 (j + 1) ++ ndL T k 0 (j + 1) := by
  unfold way
  obtain ⟨c, e⟩ : ∃ c, n - 1 - j = c + 1 := ⟨n - 1 - j - 1, by omega⟩
  have e2 : n - 1 - (j + 1) = c := by omega
  have e3 : n - 1 - c = j + 1 := by omega
  rw [e, e2]
  conv => lhs; unfold wayC
  rw [e3]
theorem way_last (T : Tab) (n : Nat) (k : Int) (i : Nat) : way T n k (i + 1) (n - 1) = way T n k i (n - 1) ++ ndD T k i (n - 1) := by
  unfold way
  rw [Nat.sub_self]
  conv => lhs; unfold wayC
theorem way_mid (T : Tab) {n : Nat} (k : Int) {i j : Nat} (hj : j + 1 < n) : way T n k (i + 1) j = pick2 (way T n k i j ++ ndD T k i j) (way T n k (i + 1) (j + 1) ++ ndL T k (i + 1) (j + 1)) := by
  unfold way
  obtain ⟨c, e⟩ : ∃ c, n - 1 - j = c + 1 := ⟨n - 1 - j - 1, by omega⟩
  have e2 : n - 1 - (j + 1) = c := by omega
  have e3 : n - 1 - c = j + 1 := by omega
  have e4 : n - 1 - (c + 1) = j := by omega
  rw [e, e2]
  conv => lhs; unfold wayC
  rw [e3, e4]
theorem pick2_le (a b : List I3) : (pick2 a b).length ≤ a.length ∧ (pick2 a b).length ≤ b.length := by
  unfold pick2
  split <;> omega
theorem pick2_or (a b : List I3) : pick2 a b = a ∨ pick2 a b = b := by
  unfold pick2
  split
  · exact .inr rfl
  · exact .inl rfl
theorem way_down (T : Tab) {n : Nat} (k : Int) {i j : Nat} (hj : j < n) : (way T n k (i + 1) j).length ≤ (way T n k i j).length + (ndD T k i j).length := by
  by_cases h : j + 1 < n
  · rw [way_mid T k h, ← List.length_append]
    exact (pick2_le _ _).1
  · have e : j = n - 1 := by omega
    subst e
    rw [way_last, List.length_append]
    exact Nat.le_refl _
theorem way_left (T : Tab) {n : Nat} (k : Int) {i j : Nat} (hj : j + 1 < n) : (way T n k i j).length ≤ (way T n k i (j + 1)).length + (ndL T k i (j + 1)).length := by
  cases i with
  | zero =>
    rw [way_top T k hj, List.length_append]
    exact Nat.le_refl _
  | succ i =>
    rw [way_mid T k hj, ← List.length_append]
    exact (pick2_le _ _).2
theorem way_from (T : Tab) {n : Nat} (k : Int) {i j : Nat} (hj : j < n) (h : ¬ (i = 0 ∧ j = n - 1)) : (∃ i', i = i' + 1 ∧ way T n k i j = way T n k i' j ++ ndD T k i' j) ∨ (j + 1 < n ∧ way T n k i j = way T n k i (j + 1) ++ ndL T k i (j + 1)) := by
  by_cases h1 : j + 1 < n
  · cases i with
    | zero => exact .inr ⟨h1, way_top T k h1⟩
    | succ i =>
      rw [way_mid T k h1]
      rcases pick2_or (way T n k i j ++ ndD T k i j) (way T n k (i + 1) (j + 1) ++ ndL T k (i + 1) (j + 1)) with e | e
      · exact .inl ⟨i, rfl, e⟩
      · exact .inr ⟨h1, e⟩
  · have e : j = n - 1 := by omega
    subst e
    cases i with
    | zero => exact absurd ⟨rfl, rfl⟩ h
    | succ i => exact .inl ⟨i, rfl, way_last T n k i⟩
theorem way_len (T : Tab) {n : Nat} (k : Int) : ∀ (s i j : Nat), i + (n - 1 - j) ≤ s → j < n → (way T n k i j).length ≤ s := by
  intro s
  induction s with
  | zero =>
    intro i j h hj
    have e1 : i = 0 := by omega
    have e2 : j = n - 1 := by omega
    subst e1 e2
    rw [way_corner]
    exact Nat.le_refl _
  | succ s ih =>
    intro i j h hj
    by_cases z : i = 0 ∧ j = n - 1
    · obtain ⟨e1, e2⟩ := z
      subst e1 e2
      rw [way_corner]
      exact Nat.zero_le _
    have d1 : ∀ i j, (ndD T k i j).length ≤ 1 := fun i j => by unfold ndD; split <;> simp
    have d2 : ∀ i j, (ndL T k i j).length ≤ 1 := fun i j => by unfold ndL; split <;> simp
    rcases way_from T k hj z with ⟨i', rfl, e⟩ | ⟨h1, e⟩
    · rw [e, List.length_append]
      have := ih i' j (by omega) hj
      have := d1 i' j
      omega
    · rw [e, List.length_append]
      have := ih i (j + 1) (by omega) h1
      have := d2 i (j + 1)
      omega
/-! ### fewer changes are not enough -/
def cntB (S : List (Nat × Nat)) (i j : Nat) : Nat := (S.filter fun s => decide (s.1 ≤ i ∧ j ≤ s.2 ∧ s ≠ (i, j))).length
theorem cntB_le (S : List (Nat × Nat)) (i j : Nat) : cntB S i j ≤ S.length := List.length_filter_le _ _
theorem filter_more {α : Type} {S : List α} {p q : α → Bool} {a : α} (h : ∀ x, p x = true → q x = true) (ha : a ∈ S) (hp : p a = false) (hq : q a = true) : (S.filter p).length + 1 ≤ (S.filter q).length := by
  induction S with
  | nil => cases ha
  | cons x S ih =>
    have mono : ∀ S : List α, (S.filter p).length ≤ (S.filter q).length := by
      intro S
      induction S with
      | nil => exact Nat.le_refl _
      | cons y S ih =>
        rw [List.filter_cons, List.filter_cons]
        cases e : p y with
        | true => rw [if_pos rfl, if_pos (h y e), List.length_cons, List.length_cons]; omega
        | false =>
          rw [if_neg (by decide)]
          split
          · rw [List.length_cons]; omega
          · exact ih
    rw [List.filter_cons, List.filter_cons]
    rcases List.mem_cons.mp ha with e | e
    · subst e
      rw [hp, hq, if_neg (by decide), if_pos rfl, List.length_cons]
      have := mono S
      omega
    · have z := ih e
      cases e : p x with
      | true => rw [if_pos rfl, if_pos (h x e), List.length_cons, List.length_cons]; omega
      | false =>
        rw [if_neg (by decide)]
        split
        · rw [List.length_cons]; omega
        · exact z
theorem filter_mono {α : Type} {p q : α → Bool} (h : ∀ x, p x = true → q x = true) : ∀ S : List α, (S.filter p).length ≤ (S.filter q).length
  | [] => Nat.le_refl _
  | y :: S => by
    have ih := filter_mono h S
    rw [List.filter_cons, List.filter_cons]
    cases e : p y with
    | true => rw [if_pos rfl, if_pos (h y e), List.length_cons, List.length_cons]; omega
    | false =>
      rw [if_neg (by decide)]
      split
      · rw [List.length_cons]; omega
      · exact ih
theorem cntB_down {S : List (Nat × Nat)} {i j : Nat} : cntB S i j + (if (i, j) ∈ S then 1 else 0) ≤ cntB S (i + 1) j := by
  unfold cntB
  have h : ∀ x : Nat × Nat, decide (x.1 ≤ i ∧ j ≤ x.2 ∧ x ≠ (i, j)) = true → decide (x.1 ≤ i + 1 ∧ j ≤ x.2 ∧ x ≠ (i + 1, j)) = true := fun x hx => by
    have hx := of_decide_eq_true hx
    refine decide_eq_true ⟨by omega, hx.2.1, fun e => ?_⟩
    have := hx.1
    rw [e] at this
    dsimp only at this
    omega
  split
  · next hs => exact filter_more h hs (decide_eq_false fun z => z.2.2 rfl) (decide_eq_true ⟨by dsimp only; omega, Nat.le_refl _, fun e => by injection e with e1 e2; omega⟩)
  · exact filter_mono h S
theorem cntB_left {S : List (Nat × Nat)} {i j : Nat} : cntB S i (j + 1) + (if (i, j + 1) ∈ S then 1 else 0) ≤ cntB S i j := by
  unfold cntB
  have h : ∀ x : Nat × Nat, decide (x.1 ≤ i ∧ j + 1 ≤ x.2 ∧ x ≠ (i, j + 1)) = true → decide (x.1 ≤ i ∧ j ≤ x.2 ∧ x ≠ (i, j)) = true := fun x hx => by
    have hx := of_decide_eq_true hx
    refine decide_eq_true ⟨hx.1, by omega, fun e => ?_⟩
    have := hx.2.1
    rw [e] at this
    dsimp only at this
    omega
  split
  · next hs => exact filter_more h hs (decide_eq_false fun z => z.2.2 rfl) (decide_eq_true ⟨Nat.le_refl _, by dsimp only; omega, fun e => by injection e with e1 e2; omega⟩)
  · exact filter_mono h S
/-- U is T but for the places S -/
def Off (T U : Tab) (S : List (Nat × Nat)) : Prop := ∀ i j, (i, j) ∉ S → val U i j = val T i j
theorem go_cost {T U : Tab} {n : Nat} {k : Int} {S : List (Nat × Nat)} (off : Off T U S) : ∀ (f i c : Nat), c ≤ n → (i < U.length → 0 < c → (way T n k i (c - 1)).length ≤ cntB S i (c - 1)) → ∀ p ∈ (go U k f i c).1, (way T n k p.1 p.2).length ≤ cntB S p.1 p.2
  | 0, i, c, _, _, p, hp => absurd hp List.not_mem_nil
  | f + 1, i, c, hc, h, p, hp => by
    by_cases hb : i < U.length ∧ 0 < c
    · obtain ⟨h1, h2⟩ := hb
      have hj : c - 1 < n := by omega
      have h3 := h h1 h2
      rcases Int.lt_trichotomy (val U i (c - 1)) k with hv | hv | hv
      · rw [go_lt h1 h2 hv] at hp
        rcases List.mem_cons.mp hp with e | hp
        · rw [e]
          exact h3
        · refine go_cost off f (i + 1) c hc (fun _ _ => ?_) p hp
          have a := way_down T k (i := i) hj
          have b := cntB_down (S := S) (i := i) (j := c - 1)
          have d : (ndD T k i (c - 1)).length ≤ if (i, c - 1) ∈ S then 1 else 0 := by
            unfold ndD
            split
            · next hk =>
              rw [if_pos (Classical.byContradiction fun hn => by
                have := off _ _ hn
                omega)]
              exact Nat.le_refl _
            · exact Nat.zero_le _
          omega
      · rw [go_eq h1 h2 hv] at hp
        rw [List.mem_singleton.mp hp]
        exact h3
      · rw [go_gt h1 h2 hv] at hp
        rcases List.mem_cons.mp hp with e | hp
        · rw [e]
          exact h3
        · refine go_cost off f i (c - 1) (by omega) (fun _ h4 => ?_) p hp
          obtain ⟨d, rfl⟩ : ∃ d, c = d + 2 := ⟨c - 2, by omega⟩
          have a := way_left T k (i := i) (j := d) hj
          have b := cntB_left (S := S) (i := i) (j := d)
          have d2 : (ndL T k i (d + 1)).length ≤ if (i, d + 1) ∈ S then 1 else 0 := by
            unfold ndL
            split
            · next hk =>
              rw [if_pos (Classical.byContradiction fun hn => by
                have := off _ _ hn
                have hv : k < val U i (d + 1) := hv
                omega)]
              exact Nat.le_refl _
            · exact Nat.zero_le _
          have h3 : (way T n k i (d + 1)).length ≤ cntB S i (d + 1) := h3
          show (way T n k i d).length ≤ cntB S i d
          omega
    · rw [go_out hb] at hp
      exact absurd hp List.not_mem_nil
theorem fewer_not {T U : Tab} {n : Nat} {S : List (Nat × Nat)} {i j : Nat} {k : Int} (t : IsTab T n) (u : IsTab U n) (off : Off T U S) (hi : i < U.length) (hj : j < n) (hl : S.length < (way T n k i j).length) : (run U n k).2 ≠ ((i : Int), (j : Int)) := fun e => by
  obtain ⟨_, _, hm⟩ := road_end _ 0 n e hi (by omega) (Nat.zero_le _)
  have h := go_cost (T := T) (n := n) off (U.length + n) 0 n (Nat.le_refl _) (fun _ _ => by rw [way_corner]; exact Nat.zero_le _) (i, j) (List.mem_of_getElem? hm)
  have := cntB_le S i j
  have h : (way T n k i j).length ≤ cntB S i j := h
  omega
end G

namespace G
open PySem PySem.Spec PyProof.Rows L2
section
variable {X : Cx} {ρ : List SD} {M : Mem} {Q : Kn} {pos p p2 cpos : Pos} {tg a b e : Expr} {QI : Nat → (Nat → SD) → Mem → Prop}
/-- a named list of lists is frozen as a whole -/
theorem gbzd (i : Nat) {l : Addr} {rows : List (Addr × List Int)} {Mz : Mem} {sts : List Stmt} {D : GD} (hr : ρ[i]? = some (.rf (.ref l))) (pm : M.Perm ((l, .lst (rows.map rowR)) :: (rows.map rowM ++ Mz))) (h : GB X (ρ.set i (.pu (tab (rows.map (·.2))))) Mz sts D) : GB X ρ M sts D := .mk fun B F H σ D' W S s => by
  obtain ⟨F2, s2, W2⟩ := Wd.deep (pre := []) (W.perm pm)
  have e : ([] ++ rows.map fun d => SD.pu (rowD d.2)) = ((rows.map (·.2)).map rowD).map SD.pu := by
    rw [List.map_map, List.map_map]
    rfl
  rw [e] at W2
  have S2 := pMono s2 S
  exact (gbz i hr h) B F2 H σ D' W2 S2 (s.mono s2)
/-- reversed(range(a, b)) -/
theorem irev2 (hm : X.mg "reversed" = none) (hm2 : X.mg "range" = none) (h : GE X ρ M a fun x M1 => ∃ lo : Nat, x = .pu (.int lo) ∧ GE X ρ M1 b fun y M2 => ∃ n : Nat, y = .pu (.int n) ∧ lo ≤ n ∧ n ≤ 10000 ∧ QI (n - lo) (fun i => .pu (.int ((n : Int) - 1 - (i : Int)))) M2)
    (hg : Gl X "reversed" := by rfl) (hg2 : Gl X "range" := by rfl) (na : starEach [a, b] X.env = (false, eval a X.env) :: starEach [b] X.env := by rfl) (nb : starEach [b] X.env = (false, eval b X.env) :: starEach [] X.env := by rfl) (hp : (backTo cpos (starEach [b] X.env)).any (·.1) = false := by rfl)
    (he2 : starEach [.Call (.Name "range" p2) [a, b] [] cpos] X.env = [(false, eval (.Call (.Name "range" p2) [a, b] [] cpos) X.env)] := by rfl) : GI X ρ M tg (.Call (.Name "reversed" p) [.Call (.Name "range" p2) [a, b] [] cpos] [] pos) QI := .mk fun B F H σ R' W S s => by
  refine wI_of (pi_revR hg hm (prg_2 hg2 hm2 pE pE na nb hp) he2) (h B F H σ _ W S fun x M1 v F1 H1 hx W1 s1 vx => ?_)
  obtain ⟨lo, rfl, hx⟩ := hx
  have vx : Dt F1 v (.int lo) := vx
  cases vx
  refine hx B F1 H1 σ _ W1 (pMono s1 S) fun y M2 w F2 H2 hy W2 s2 wy => ?_
  obtain ⟨n, rfl, hln, hn, q⟩ := hy
  have wy : Dt F2 w (.int n) := wy
  cases wy
  refine ⟨lo, n, rfl, rfl, by omega, by omega, by omega, by omega, ?_⟩
  have e1 : ((n : Int) - (lo : Int)).toNat = n - lo := by omega
  rw [e1]
  refine s _ _ M2 _ F2 H2 q W2 (s1.trans s2) ?_
  have z := git_rngC (F := F2) (lo := (lo : Int) + ((n - lo : Nat) : Int) - 1) (c := -1) (n := n - lo)
  have e2 : (fun i : Nat => SD.pu (.int ((lo : Int) + ((n - lo : Nat) : Int) - 1 + (i : Int) * (-1)))) = fun i : Nat => SD.pu (.int ((n : Int) - 1 - (i : Int))) := by
    funext i
    congr 2
    omega
  rw [e2] at z
  exact z
end
theorem valS_put (kvs : List (List Key × SD)) (k : List Key) (r : SD) (k' : List Key) : valS (putS kvs k r) k' = if k' = k then some r else valS kvs k' := by
  unfold putS
  by_cases q : (kvs.any fun kv => decide (kv.1 = k)) = true
  · rw [if_pos q]
    induction kvs with
    | nil => cases q
    | cons a kvs ih =>
      unfold valS at ih ⊢
      rw [List.map_cons, List.find?_cons, List.find?_cons]
      by_cases ha : a.1 = k
      · rw [if_pos ha]
        by_cases hk : k' = k
        · rw [if_pos hk, hk, decide_eq_true ha]
          rfl
        · rw [if_neg hk]
          have h1 : decide (a.1 = k') = false := decide_eq_false fun z => hk (z.symm.trans ha)
          dsimp only
          rw [h1]
          dsimp only
          by_cases q2 : (kvs.any fun kv => decide (kv.1 = k)) = true
          · have z := ih q2
            rw [if_neg hk] at z
            exact z
          · have z : kvs.map (fun kv => if kv.1 = k then (kv.1, r) else kv) = kvs := by
              refine (List.map_congr_left fun x hx => ?_).trans (List.map_id kvs)
              rw [if_neg fun w => q2 (List.any_eq_true.mpr ⟨x, hx, decide_eq_true w⟩)]
              rfl
            rw [z]
      · rw [if_neg ha]
        have q2 : (kvs.any fun kv => decide (kv.1 = k)) = true := by
          rw [List.any_cons, decide_eq_false ha, Bool.false_or] at q
          exact q
        have z := ih q2
        by_cases hk : k' = k
        · rw [if_pos hk] at z ⊢
          have h1 : decide (a.1 = k') = false := decide_eq_false fun w => ha (w.trans hk)
          rw [h1]
          exact z
        · rw [if_neg hk] at z ⊢
          cases decide (a.1 = k') with
          | true => rfl
          | false => exact z
  · rw [if_neg q]
    unfold valS
    rw [List.find?_append]
    by_cases hk : k' = k
    · rw [if_pos hk, hk]
      have z : kvs.find? (fun kv => decide (kv.1 = k)) = none := List.find?_eq_none.mpr fun x hx w => q (List.any_eq_true.mpr ⟨x, hx, w⟩)
      rw [z, Option.none_or, List.find?_cons, decide_eq_true rfl]
      rfl
    · rw [if_neg hk]
      have h1 : decide (k = k') = false := decide_eq_false fun w => hk w.symm
      cases kvs.find? (fun kv => decide (kv.1 = k')) with
      | some x => rfl
      | none => rw [Option.none_or, List.find?_cons]; dsimp only; rw [h1]; rfl
theorem putS_len (kvs : List (List Key × SD)) (k : List Key) (r : SD) : (putS kvs k r).length ≤ kvs.length + 1 := by
  unfold putS
  split
  · rw [List.length_map]; omega
  · rw [List.length_append]; exact Nat.le_refl _
theorem kI_inj {a b c d : Int} : kI [a, b] = kI [c, d] ↔ a = c ∧ b = d := by
  constructor
  · intro h
    have h : [Sum.inl (β := Str) a, Sum.inl b] = [Sum.inl c, Sum.inl d] := h
    injection h with h1 h2
    injection h1 with h1
    injection h2 with h2 _
    injection h2 with h2
    exact ⟨h1, h2⟩
  · rintro ⟨rfl, rfl⟩
    rfl
end G

namespace G
open PySem PySem.Spec PyProof.Rows L2
/-! ### sorted(set(list of pairs of ints)): any number of items, few different ones -/
theorem few_nodup {α : Type} [DecidableEq α] : ∀ (l D : List α), l.Nodup → (∀ x ∈ l, x ∈ D) → l.length ≤ D.length
  | [], _, _, _ => Nat.zero_le _
  | x :: l, D, hn, hs => by
    obtain ⟨a1, a2⟩ := List.nodup_cons.mp hn
    have hx := hs x List.mem_cons_self
    have le := few_nodup l (D.erase x) a2 fun y hy => (List.mem_erase_of_ne fun (e : y = x) => a1 (by rw [← e]; exact hy)).mpr (hs y (List.mem_cons_of_mem _ hy))
    rw [List.length_erase_of_mem hx] at le
    have := List.length_pos_of_mem hx
    rw [List.length_cons]
    omega
/-- what was there stays -/
abbrev Kp (h h' : Heap) : Prop := ∀ b o, h.get? b = some o → h'.get? b = some o
/-- the set at S holds the first i of ks, as keys -/
def TG (P : Program) (w : World) (S : Addr) (ks : List (Addr × List Int)) (i : Nat) (h : Heap) : Prop := ∃ L es ep t, SetTR P w h S L es ep t ∧ Got ks i L
section
variable {P : Program} {w : World} {A : Around} {E : Value → Shared → Prop} {s : Shared} {ks : List (Addr × List Int)} {S : Addr}
theorem tg_sub {L : List (Addr × List Int)} {i : Nat} (g : Got ks i L) {p : Addr × List Int} (hp : p ∈ L) : p ∈ ks := List.mem_of_mem_take (g.sub p hp)
theorem tg_few {D : List (List Int)} {L : List (Addr × List Int)} {i : Nat} (hD : ∀ p ∈ ks, p.2 ∈ D) (nd : (L.map (·.2)).Nodup) (g : Got ks i L) : L.length ≤ D.length := by
  have z := few_nodup (L.map (·.2)) D nd fun x hx => by
    obtain ⟨p, hp, rfl⟩ := List.mem_map.mp hx
    exact hD p (tg_sub g hp)
  rwa [List.length_map] at z
/-- the loop of set.update over tuples -/
theorem upd_tups {I : Addr} {fp wr : List Addr} {G : Array GenState → Array GenState → Prop} {Pv : Nat → Value → Prop} {St : Nat → Shared → Prop} {R : Result → Shared → Prop} {D : List (List Int)} {h0 : Heap}
    (W : WalksS P w A.in1 I fp wr G ks.length Pv St) (out : S ∉ fp) (hD : ∀ p ∈ ks, p.2 ∈ D) (few : D.length ≤ 62) (pick : ∀ i v, Pv i v → ∃ p, ks[i]? = some p ∧ v = .ref p.1) (tup : ∀ p ∈ ks, IsT P w h0 p.2 p.1) (gone : ∀ b ∈ S :: wr, h0.get? b = none) (hu : A.in1.units < cLine) :
    ∀ (m i : Nat) (s : Shared), i + m = ks.length → St i s → Kp h0 s.heap → TG P w S ks i s.heap → (∀ s', Moved (S :: wr) G s s' → TG P w S ks ks.length s'.heap → Kp h0 s'.heap → R (.ok (.ret .none)) s') →
      codeAny (model P w) A (.builtin "set.update.loop" ⟨[.ref S, .ref I], []⟩) R s := by
  have Sw : S ∉ wr := fun h => out (W.sub _ h)
  have up : ∀ b ∈ wr, b ∈ S :: wr := fun b hb => List.mem_cons_of_mem _ hb
  have kp : ∀ {s s' : Shared}, Moved wr G s s' → Kp h0 s.heap → Kp h0 s'.heap := fun mv k b o e => mv.heap b o (fun hb => by have z := gone b (up b hb); rw [z] at e; cases e) (k b o e)
  have mov : ∀ {s s' : Shared} {i : Nat}, Moved wr G s s' → Kp h0 s'.heap → TG P w S ks i s.heap → TG P w S ks i s'.heap := fun mv k ⟨L, es, ep, t, r, g⟩ =>
    ⟨L, es, ep, t, r.keep (fun o e => mv.heap S o Sw e) fun p hp => isT_keep (tup p (tg_sub g hp)) k, g⟩
  intro m
  induction m with
  | zero =>
    intro i s hi st k0 tg fin
    obtain rfl : i = ks.length := hi
    refine codeAny_builtin F.entry_set_update_loop ?_; rw [Around.under_plainId F.plain_set_update_loop _]
    refine (show wpAny _ A.in1 (pyNext (.ref I) >>= _) _ _ s from wpAny_bind (W.done s _ _ st fun s' mv => ?_))
    exact (show wpAny _ A.in1 (ret Value.none) _ _ s' from wpAny_pure (fin s' (mv.mono up) (mov mv (kp mv k0) tg) (kp mv k0)))
  | succ m ih =>
    intro i s hi st k0 tg fin
    refine codeAny_builtin F.entry_set_update_loop ?_; rw [Around.under_plainId F.plain_set_update_loop _]
    refine (show wpAny _ A.in1 (pyNext (.ref I) >>= _) _ _ s from wpAny_bind (W.item i s _ _ (by omega) st fun v s' hv st' mv => ?_))
    obtain ⟨p, hp, rfl⟩ := pick i v hv
    have k1 := kp mv k0
    obtain ⟨L, es, ep, t, r, g⟩ := mov mv k1 tg
    have hx : IsT P w s'.heap p.2 p.1 := isT_keep (tup p (List.mem_of_getElem? hp)) k1
    show wpAny _ A.in1 (holding [Value.ref p.1] (setAdd S (.ref p.1)) >>= _) _ _ s'
    refine wpAny_bind (wpAny_holding (show wpAny _ A.in1 (setAdd S (.ref p.1)) _ _ s' from ?_))
    unfold setAdd
    have l1 := tg_few hD r.nd g
    refine wpAny_holding (wpAny_bind (wpAny_pyHash_tuple hu hx (add_at (s := { s' with toks := s'.toks + (p.2.length + 1) }) r hx hu (by omega) fun b h' L2 es2 ep2 t2 sb r2 c1 c2 => ?_)))
    have k2 : Kp h0 h' := fun b o e => by
      have z := sb.2 b fun q => by
        subst q
        rw [gone _ List.mem_cons_self] at e
        cases e
      exact z.trans (k1 b o e)
    have g2 : Got ks (i + 1) L2 := (Classical.em (p.2 ∈ L.map (·.2))).elim (fun c => by rw [c1 c]; exact g.same hp c) fun c => g.more hp (c2 c)
    refine wpAny_pure ⟨plainId_quiet F.plain_set_update_loop _, ih (i + 1) _ (by omega) (W.frame _ s' _ _ st' (Nat.le_add_right _ _) fun b hb o e => ?_) k2 ⟨L2, es2, ep2, t2, r2, g2⟩ fun s2 mv2 tg2 k3 => fin s2 (Moved.trans W.gtrans ((mv.mono up).then_heap (Nat.le_add_right _ _) fun b o hb e => ?_) mv2) tg2 k3⟩
    · have ne : b ≠ S := fun q => out (q ▸ hb)
      rw [sb.2 b ne]
      exact e
    · have ne : b ≠ S := fun q => hb (q ▸ List.mem_cons_self)
      rw [sb.2 b ne]
      exact e
/-- what a set of tuples knows, behind l's items -/
abbrev TupGot (P : Program) (w : World) (h0 : Heap) (a : Addr) (ks : List (Addr × List Int)) (h' : Heap) : Prop := TG P w a ks ks.length h' ∧ Kp h0 h'
theorem setInit_tups {l : Addr} {h0 : Heap} {R : Result → Shared → Prop} {D : List (List Int)} (hh : A.handled = none) (hl : LAt h0 l (ks.map fun p => Value.ref p.1)) (tup : ∀ p ∈ ks, IsT P w h0 p.2 p.1) (hD : ∀ p ∈ ks, p.2 ∈ D) (few : D.length ≤ 62) (hu : A.units + 3 < cLine)
    (hs : s.heap = h0.push (nuS w)) (h : ∀ (h' : Heap) (tk : Nat), TupGot P w h0 h0.objs.size ks h' → R (.ok (.ret .none)) { s with heap := h', toks := tk }) :
    wpAny (model P w) A.in1 (Builtin.«set.__init__» ⟨[.ref h0.objs.size, .ref l], []⟩) (fun f s' => match f with
      | .done f => R (.ok f) s'
      | .again c' => c'.quiet = true ∧ codeAny (model P w) A c' R s') (fun e s' => R (.error e) s') s := by
  obtain ⟨hp, g, d, tk, os⟩ := s
  have hs : hp = h0.push (nuS w) := hs
  subst hs
  have lt : l < h0.objs.size := let ⟨_, e⟩ := hl; Heap.lt_size e
  have hl' : LAt (h0.push (nuS w)) l (ks.map fun p => Value.ref p.1) := hl.keep fun o q => Heap.get?_push_of_some _ q
  obtain ⟨n, e⟩ := id hl'
  have hS : (h0.push (nuS w)).get? h0.objs.size = some (nuS w) := Heap.get?_push_size _ rfl
  have f1 := F.sub_list_set
  have f2 := F.sub_list_frozenset
  have f3 : (Value.type "list" == Value.type "dict") = false := by decide
  have len : (ks.map fun p => Value.ref p.1).toArray.size = ks.length := by rw [List.size_toArray, List.length_map]
  unfold Builtin.«set.__init__» noKeywords Builtin.Frozenset.updateFrom
  generalize hPI : pyIter = PI
  wp_walk
  subst hPI
  refine wpAny_pyIter_list hl'.isList (wpAny_bind (wpAny_runValue ?_))
  have zz : (h0.push (nuS w)).objs.size = h0.objs.size + 1 := Heap.size_push ..
  have nI : l ≠ (h0.push (nuS w)).objs.size := by
    rw [zz]
    exact Nat.ne_of_lt (Nat.lt_succ_of_lt lt)
  have nS : h0.objs.size ∉ [(h0.push (nuS w)).objs.size, l] := by
    rw [zz]
    intro hm
    rcases List.mem_cons.mp hm with q | q
    · exact Nat.ne_of_lt (Nat.lt_succ_self _) q
    · rw [List.mem_singleton] at q
      exact Nat.ne_of_gt lt q
  have val : ∀ (i : Nat) (v : Value), (ks.map fun p => Value.ref p.1).toArray[i]? = some v → ∃ p, ks[i]? = some p ∧ v = .ref p.1 := by
    intro i v hv
    have hv : (ks.map fun p => Value.ref p.1)[i]? = some v := by simpa using hv
    rw [List.getElem?_map] at hv
    obtain ⟨p, h1, h2⟩ := Option.map_eq_some_iff.mp hv
    exact ⟨p, h1, h2.symm⟩
  have off : ∀ b, h0.objs.size ≤ b → h0.get? b = none := fun b hb => by
    cases q : h0.get? b with
    | none => rfl
    | some o => exact absurd (Nat.lt_of_lt_of_le (Heap.lt_size q) hb) (Nat.lt_irrefl _)
  have Wk := (Walks.list (prog := P) (w := w) (by simp [hh] : A.in1.in1.handled = none) _ l nI (ks.map fun p => Value.ref p.1).toArray).toS
  rw [len] at Wk
  refine upd_tups (h0 := h0) Wk nS hD few val tup (fun b hb => off b ?_) (by show A.units + 2 < cLine; omega) ks.length 0 _ (by omega) ?_ ?_ ?_ ?_
  · rcases List.mem_cons.mp hb with q | q
    · rw [q]
      exact Nat.le_refl _
    · rw [List.mem_singleton.mp q, zz]
      exact Nat.le_succ _
  · exact ⟨⟨_, Heap.get?_push_size _ rfl, rfl, rfl⟩, hl'.isList.push _⟩
  · exact fun b o q => Heap.get?_push_of_some _ (Heap.get?_push_of_some _ q)
  · exact ⟨[], #[], 0, _, setTR_fresh (Heap.get?_push_of_some _ hS), .zero ks⟩
  rintro ⟨h', g2, d2, tk2, os2⟩ hm tg k
  obtain rfl : g2 = g := hm.gens
  obtain rfl : d2 = d := hm.drawn
  obtain rfl : os2 = os := hm.os
  exact wpAny_pure (wpAny_pure (h h' tk2 ⟨tg, k⟩))
theorem call_setT {l : Addr} {Q : Value → Shared → Prop} {D : List (List Int)} (hh : A.handled = none) (hl : LAt s.heap l (ks.map fun p => Value.ref p.1)) (tup : ∀ p ∈ ks, IsT P w s.heap p.2 p.1) (hD : ∀ p ∈ ks, p.2 ∈ D) (few : D.length ≤ 62) (hu : A.units + 5 < cLine)
    (h : ∀ (h' : Heap) (tk : Nat), TupGot P w s.heap s.heap.objs.size ks h' → Q (.ref s.heap.objs.size) { s with heap := h', toks := tk }) : wpAny (model P w) A (call (.type "set") [.ref l]) Q E s := by
  obtain ⟨c, tl, hmro⟩ := F.called_set.mro
  have ⟨h1, h2, _, hmade, _, hsub, _⟩ := F.called_set
  have hct := F.typeCall_set_1 (.ref l)
  refine wpAny_call (codeAny_of_tree (show wpAny _ _ (callAny (.type "set") _) _ _ _ from ?_))
  refine wpAny_pure ⟨Code.quiet_builtin _ (by decide +kernel), codeAny_builtin F.entry_type_call (by
    rw [Around.under_plain (weight_type_call_type "set" [.ref l] []) rfl]
    repeat (any_goals (first | assumption | wp_step))
    refine codeAny_mono (code_set_led1 (.ref l) (E := E) (Q₁ := fun obj t => obj = .ref s.heap.objs.size ∧ t = { s with heap := s.heap.push (nuS w) }) ⟨rfl, rfl⟩) fun r t hr => ?_
    match r, hr with
    | .error e, hr => exact hr
    | .ok .next, hr => exact False.elim hr
    | .ok .brk, hr => exact False.elim hr
    | .ok .cont, hr => exact False.elim hr
    | .ok (.ret obj), hr =>
      obtain ⟨rfl, rfl⟩ := hr
      have hT : Shared.TypeIs { s with heap := s.heap.push (nuS w) } (.ref s.heap.objs.size) "set" := ⟨_, Heap.get?_push_size _ rfl, rfl⟩
      have ⟨_, _, _, _, _, _, hin⟩ := F.called_set
      have hli := hin.lookup
      have hbi := hin.bind (.ref s.heap.objs.size)
      repeat (any_goals (first | assumption | wp_step))
      refine codeAny_mono (codeAny_call_builtin (R := wants (fun r t => r = .none ∧ ∃ h' tk, t = { s with heap := h', toks := tk } ∧ TupGot P w s.heap s.heap.objs.size ks h') E) hin.plain F.entry_set_init
        (check_set_init_1 hT (setInit_tups (h0 := s.heap) hh hl tup hD few (by show A.units + 1 + 3 < cLine; omega) rfl fun h' tk g => ⟨rfl, h', tk, rfl, g⟩))) fun r₂ t hr₂ => ?_
      match r₂, hr₂ with
      | .error e, hr => exact hr
      | .ok .next, hr => exact False.elim hr
      | .ok .brk, hr => exact False.elim hr
      | .ok .cont, hr => exact False.elim hr
      | .ok (.ret _), hr =>
        obtain ⟨rfl, h', tk, rfl, g⟩ := hr
        repeat (any_goals (first | assumption | wp_step))
        exact h h' tk g)⟩
/-- sorted(set) of pairs -/
theorem sorted_setP {a : Addr} {L : List (Addr × List Int)} {es : Array (Int × Value)} {ep : Nat} {t : SetTable} {k : Value → Int × Int} {Q : Value → Shared → Prop} (R : SetTR P w s.heap a L es ep t) (hh : A.handled = none)
    (hp : ∀ q ∈ L, Srt.IsPair s.heap (.ref q.1) (k (.ref q.1)).1 (k (.ref q.1)).2)
    (hQ : ∀ (t : Shared) (p : Addr) (out : List Value) (c : Nat), Kp s.heap t.heap → t.gens = s.gens → t.os = s.os → s.heap.objs.size ≤ p → t.heap.get? p = some (seqObj "list" out.toArray c) → out.Perm (L.map fun q => Value.ref q.1) →
      SrtO.Srtd (fun v u => SrtO.lexB (k v) (k u)) out → Q (.ref p) t) : wpAny (model P w) A (call (.builtin "sorted") [.ref a]) Q E s := by
  obtain ⟨o, ho, hex, hd⟩ := R.ob
  have sz := R.size
  have few := R.few
  refine Calls.call_function_entry kind_sorted plain_sorted entry_sorted (args_sorted1 _) (show wpAny _ _ (checkCount "sorted" 1 1 _ >>= _) _ _ _ from wpAny_bind (wpAny_pure ?_))
  refine wpAny_bind (collect_set (A := A.in1) hh ⟨o, ho, hex.1, hd⟩ R.fits (by unfold scanBound; omega) R.tab.ris R.led fun s1 vs k1 hz1 g1 o1 pm => ?_)
  have em : es.toList.map (·.2) = L.map fun q => Value.ref q.1 := by
    rw [R.rows]
    show (L.map fun p => (thash P w p.2, Value.ref p.1)).map (·.2) = _
    rw [List.map_map]
    rfl
  rw [em] at pm
  have vz : vs.length ≤ sizeLine := by
    rw [pm.length_eq, List.length_map, sizeLine_eq]
    omega
  refine wpAny_bind (wpAny_newList ?_ vz)
  have hoL : (s1.heap.push (seqObj "list" vs.toArray 0)).get? s1.heap.objs.size = some (seqObj "list" vs.toArray 0) := Heap.get?_push_size _ rfl
  have hv : ∀ v ∈ vs, Srt.IsPair (s1.heap.push (seqObj "list" vs.toArray 0)) v (k v).1 (k v).2 := fun v hv => by
    obtain ⟨q, hq, rfl⟩ := List.mem_map.mp (pm.mem_iff.mp hv)
    exact (hp q hq).keeps fun b o e _ => Heap.get?_push_of_some _ (k1 b o e)
  refine wpAny_bind (wpAny_holding (wpAny_call_entry slot_list_sort ⟨_, hoL, rfl⟩ entry_list_sort (SrtO.list_sort_ord (SrtO.swo_lex k) hoL vz (fun h2 => SrtO.pairs_sortableO (by omega) hv fun o e => ?_) fun out b1 b2 => ⟨_, rfl, ?_⟩) (args_list_sort _)))
  · have e' : some o = some (seqObj "list" vs.toArray 0) := e.symm.trans hoL
    cases e'
    exact fun c => absurd (Value.type.inj c) (by decide)
  obtain ⟨c, hc⟩ := sortedHeap_at (vs := vs) (out := out.toArray) hoL
  refine wpAny_pure ⟨_, rfl, hQ _ s1.heap.objs.size out c (fun b u e => ?_) g1 o1 hz1 hc (b2.perm.trans pm) b1⟩
  have lt := Heap.lt_size (k1 b u e)
  show (sortedHeap (s1.heap.push (seqObj "list" vs.toArray 0)) s1.heap.objs.size vs out.toArray).get? b = some u
  rw [sortedHeap_old (Nat.ne_of_lt lt) (by rw [size_push']; exact Nat.lt_succ_of_lt lt)]
  exact Heap.get?_push_of_some _ (k1 b u e)
end
/-- a pair's address with the pair, as the sets of tuples have it -/
def lp (p : Addr × (Int × Int)) : Addr × List Int := (p.1, [p.2.1, p.2.2])
def unlp (p : Addr × List Int) : Addr × (Int × Int) := (p.1, (p.2.getD 0 0, p.2.getD 1 0))
theorem unlp_lp (p : Addr × (Int × Int)) : unlp (lp p) = p := rfl
theorem lp_back {ks : List (Addr × (Int × Int))} {L : List (Addr × List Int)} (h : ∀ p ∈ L, p ∈ ks.map lp) : L = (L.map unlp).map lp ∧ ∀ p ∈ L.map unlp, p ∈ ks := by
  refine ⟨?_, fun p hp => ?_⟩
  · rw [List.map_map]
    conv => lhs; rw [← List.map_id L]
    refine List.map_congr_left fun p hp => ?_
    obtain ⟨q, _, rfl⟩ := List.mem_map.mp (h p hp)
    rfl
  · obtain ⟨q, hq, rfl⟩ := List.mem_map.mp hp
    obtain ⟨r, hr, rfl⟩ := List.mem_map.mp (h q hq)
    exact hr
theorem keys_lp (L : List (Addr × (Int × Int))) : (L.map lp).map (·.2) = (L.map (·.2)).map fun q => [q.1, q.2] := by
  rw [List.map_map, List.map_map]
  rfl
theorem two_inj {p q : Int × Int} (h : ([p.1, p.2] : List Int) = [q.1, q.2]) : p = q := by
  injection h with h1 h2
  injection h2 with h2 _
  exact Prod.ext h1 h2
def lexLt (p q : Int × Int) : Prop := p.1 < q.1 ∨ (p.1 = q.1 ∧ p.2 < q.2)
theorem lex_strict {L : List (Int × Int)} (h : L.Pairwise lexLe) (nd : L.Nodup) : L.Pairwise lexLt := by
  refine (h.and nd).imp fun {p q} ⟨a, b⟩ => ?_
  unfold lexLt
  rcases a with a | ⟨a, c⟩
  · exact .inl a
  · refine .inr ⟨a, ?_⟩
    rcases Int.lt_or_le p.2 q.2 with z | z
    · exact z
    · exact absurd (Prod.ext a (by omega)) b
theorem lex_uniq : ∀ {A B : List (Int × Int)}, A.Pairwise lexLt → B.Pairwise lexLt → (∀ q, q ∈ A ↔ q ∈ B) → A = B
  | [], [], _, _, _ => rfl
  | [], q :: B, _, _, h => absurd ((h q).mpr List.mem_cons_self) List.not_mem_nil
  | p :: A, [], _, _, h => absurd ((h p).mp List.mem_cons_self) List.not_mem_nil
  | p :: A, q :: B, ha, hb, h => by
    obtain ⟨a1, a2⟩ := List.pairwise_cons.mp ha
    obtain ⟨b1, b2⟩ := List.pairwise_cons.mp hb
    have irr : ∀ {x y : Int × Int}, lexLt x y → lexLt y x → False := fun {x y} h1 h2 => by
      unfold lexLt at h1 h2
      omega
    have e : p = q := by
      rcases List.mem_cons.mp ((h p).mp List.mem_cons_self) with e | e
      · exact e
      · rcases List.mem_cons.mp ((h q).mpr List.mem_cons_self) with e2 | e2
        · exact e2.symm
        · exact (irr (b1 p e) (a1 q e2)).elim
    subst e
    rw [lex_uniq a2 b2 fun x => ?_]
    constructor
    · intro hx
      rcases List.mem_cons.mp ((h x).mp (List.mem_cons_of_mem _ hx)) with e | e
      · subst e
        exact (irr (a1 _ hx) (a1 _ hx)).elim
      · exact e
    · intro hx
      rcases List.mem_cons.mp ((h x).mpr (List.mem_cons_of_mem _ hx)) with e | e
      · subst e
        exact (irr (b1 _ hx) (b1 _ hx)).elim
      · exact e
section
variable {X : Cx} {ρ : List SD} {M : Mem} {Q : Kn} {pos : Pos} {e : Expr}
def rSetP (P : Program) (w : World) : List V → Hp → VK → Prop := fun vs H Q => ∃ (l : Addr) (ks : List (Addr × (Int × Int))) (D : List (Int × Int)), vs = [.ref l] ∧ H l = some (.lst (ks.map fun p => V.ref p.1)) ∧ (∀ p ∈ ks, H p.1 = some (HO.tup [V.int p.2.1, V.int p.2.2])) ∧ (∀ p ∈ ks, p.2 ∈ D) ∧ D.length ≤ 62 ∧
  ∀ (a : Addr) (L : List (Addr × (Int × Int))), H a = none → (∀ p ∈ L, p ∈ ks) → (∀ p ∈ ks, p.2 ∈ L.map (·.2)) → Q (.ref a) (upd H a (SetTO P w a (L.map lp)))
theorem cr_setP (hc : X.calm = true) (hu : X.A.units + 64 < cLine) : CallR X (.type "set") (rSetP X.prog X.w) := by
  intro pins s σ H vs us Q I r h
  obtain ⟨l, ks, D, rfl, hl, hk, hD, few, q⟩ := h
  rw [Vals.ref1 r]
  obtain ⟨z, its, n, g1, g2, g3⟩ := I.lstM hl
  have ei : its = (ks.map lp).map fun p => Value.ref p.1 := by
    have z := refs_of_vals (ks := ks.map lp) (us := its) (by rw [List.map_map]; exact g1)
    exact z
  subst ei
  have hn : H s.heap.objs.size = none := I.hok.fresh (Nat.le_refl _)
  refine call_setT (ks := ks.map lp) (D := D.map fun q => [q.1, q.2]) (I.ok.hd hc) ⟨n, g3⟩ (fun p hp => ?_) (fun p hp => ?_) (by rw [List.length_map]; exact few) (by omega) fun h' tk ⟨⟨L, es, ep, t, R, g⟩, k⟩ => ?_
  · obtain ⟨q, hq, rfl⟩ := List.mem_map.mp hp
    exact Inv.isT I (.inl (.inl (hk q hq)))
  · obtain ⟨q, hq, rfl⟩ := List.mem_map.mp hp
    exact List.mem_map.mpr ⟨q.2, hD q hq, rfl⟩
  obtain ⟨eL, sub⟩ := lp_back fun p hp => tg_sub g hp
  rw [eL] at R g
  refine ⟨.ref s.heap.objs.size, _, I.laid (t' := tk) k (Nat.le_refl _) (setTO_new R.t0), rfl, q _ (L.map unlp) hn sub fun p hp => ?_⟩
  have z := g.all (lp p) (by rw [List.take_length]; exact List.mem_map_of_mem hp)
  rw [keys_lp] at z
  obtain ⟨x, hx, e⟩ := List.mem_map.mp z
  rw [← two_inj e]
  exact hx
def rSortedSP (P : Program) (w : World) : List V → Hp → VK → Prop := fun vs H Q => ∃ (a : Addr) (L : List (Addr × (Int × Int))), vs = [V.ref a] ∧ H a = some (SetTO P w a (L.map lp)) ∧ (∀ p ∈ L, H p.1 = some (HO.tup [V.int p.2.1, V.int p.2.2])) ∧
  ∀ (bs : List Addr) (d : Addr), bs.Perm (L.map (·.1)) → (bs.map (prA H)).Pairwise lexLt → H d = none → Q (.ref d) (upd H d (.lst (bs.map V.ref)))
theorem cr_sortedSP (hc : X.calm = true) : CallR X (.builtin "sorted") (rSortedSP X.prog X.w) := by
  intro pins s σ H vs us Q I r h
  obtain ⟨a, L, rfl, ha, hk, q⟩ := h
  have R0 : SetT0 X.prog X.w s.heap a (L.map lp) := (I.hok a _ ha).1
  obtain ⟨es, ep, t, R⟩ := R0.full fun p hp => by
    obtain ⟨q, hq, rfl⟩ := List.mem_map.mp hp
    exact Inv.isT I (.inl (.inl (hk q hq)))
  rw [Vals.ref1 r]
  have nd : (L.map (·.2)).Nodup := by
    have z := R.nd
    rw [keys_lp] at z
    exact L2.nodup_of_map z
  have eP : ∀ p ∈ L, prA H p.1 = p.2 := fun p hp => prA_of (hk p hp)
  refine sorted_setP (k := prV H) R (I.ok.hd hc) (fun v hv => ?_) fun t p out c kp g o hp hg pm sr => ?_
  · obtain ⟨q, hq, rfl⟩ := List.mem_map.mp hv
    show Srt.IsPair s.heap (.ref q.1) (prA H q.1).1 (prA H q.1).2
    rw [eP q hq]
    obtain ⟨z, its2, r2, o, ho, hc, m, hd⟩ := I.hok _ _ (hk q hq)
    cases r2 with
    | cons r3 r4 =>
      cases r4 with
      | cons r4 r5 =>
        cases r5
        obtain ⟨t1, rfl⟩ := r3
        obtain ⟨t2, rfl⟩ := r4
        exact ⟨q.1, o, t1, t2, m, rfl, ho, hc, hd⟩
  have few := R.few
  rw [List.length_map] at few
  have er : ((L.map lp).map fun q => Value.ref q.1) = (L.map (·.1)).map Value.ref := by
    rw [List.map_map, List.map_map]
    rfl
  rw [er] at pm
  obtain ⟨bs, rfl, pb⟩ := refs_perm pm
  have lb : (bs.map V.ref).length ≤ sizeLine := by
    rw [List.length_map, pb.length_eq, List.length_map, sizeLine_eq]
    omega
  have hn : H p = none := I.hok.fresh hp
  obtain ⟨h', g', d', t', o'⟩ := t
  obtain rfl : g' = s.gens := g
  obtain rfl : o' = s.os := o
  have J : Inv X pins σ (upd H p (.lst (bs.map V.ref))) { s with heap := h', gens := s.gens, drawn := d', toks := t' } :=
    I.call (ch := []) (Un.laid kp hp hn) (I.hok.laid kp hp ⟨lb, bs.map Value.ref, c, vals_refs bs, hg⟩) I.bare (fun _ z => nomatch z)
  refine ⟨.ref p, _, J, rfl, q bs p pb (lex_strict ?_ ?_) hn⟩
  · rw [List.pairwise_map]
    rw [SrtO.Srtd, List.pairwise_map] at sr
    refine sr.imp fun {a b} h => ?_
    have h := SrtO.lexB_no.mp h
    have h : ¬ ((prA H b).1 < (prA H a).1 ∨ ((prA H b).1 = (prA H a).1 ∧ (prA H b).2 < (prA H a).2)) := h
    show (prA H a).1 < (prA H b).1 ∨ ((prA H a).1 = (prA H b).1 ∧ (prA H a).2 ≤ (prA H b).2)
    omega
  · rw [(pb.map (prA H)).nodup_iff, List.map_map]
    have e : L.map (prA H ∘ (·.1)) = L.map (·.2) := List.map_congr_left fun p hp => eP p hp
    rw [e]
    exact nd
/-- sorted(set(e)): e a list of pairs -/
theorem gsortsetP {p p2 cpos : Pos} (hc : X.calm = true) (hu : X.A.units + 64 < cLine) (hm : X.mg "sorted" = none) (hm2 : X.mg "set" = none)
    (h : GE X ρ M e fun x M1 => ∃ ps D : List (Int × Int), LV M1 x (ps.map end_) ∧ (∀ p ∈ ps, p ∈ D) ∧ D.length ≤ 62 ∧ ∀ (l : Addr) (qs : List (Int × Int)), qs.Pairwise lexLt → (∀ q, q ∈ qs ↔ q ∈ ps) → Q (.rf (.ref l)) ((l, .lst (qs.map end_)) :: M1))
    (hg : Gl X "sorted" := by rfl) (hg2 : Gl X "set" := by rfl) (he : starEach [e] X.env = [(false, eval e X.env)] := by rfl)
    (he2 : starEach [.Call (.Name "set" p2) [e] [] cpos] X.env = [(false, eval (.Call (.Name "set" p2) [e] [] cpos) X.env)] := by rfl) : GE X ρ M (.Call (.Name "sorted" p) [.Call (.Name "set" p2) [e] [] cpos] [] pos) Q := .mk fun B F H σ Q' W S s => by
  refine wE_of (pe_callB (cr_sortedSP hc) hg hm PyProof.Rows.boot_sorted (pa_cons (pe_callTy (cr_setP hc hu) hg2 hm2 boot_set (pa_cons pE pa_nil he) (by decide) (by decide) he) pa_nil he2) (by decide) (by decide) he2) ?_
  refine h.run B F H σ _ W S fun x M1 v F1 H1 hx W1 s1 vx => ?_
  obtain ⟨ps, D, lv, hD, few, q⟩ := hx
  obtain ⟨p, vs, rfl, hp, pr⟩ := lv.at W1 vx
  obtain ⟨as, rfl, a1, a2⟩ := pairs_in W1.fh pr
  have ela : as.length = ps.length := Paired.length a1
  have eA : (as.zip ps).map (·.1) = as := List.map_fst_zip (by omega)
  have eB : (as.zip ps).map (·.2) = ps := List.map_snd_zip (by omega)
  have hz : ∀ (as : List Addr) (ps : List (Int × Int)), PrH F1 as ps → ∀ p ∈ as.zip ps, F1 p.1 = some (HO.tup [V.int p.2.1, V.int p.2.2]) := by
    intro as ps h
    induction h with
    | nil => exact fun p hp => absurd hp List.not_mem_nil
    | cons h t ih =>
      intro p hp
      rcases List.mem_cons.mp hp with e | e
      · subst e
        exact h
      · exact ih p e
  have hzF := hz as ps a2
  have hzH : ∀ p ∈ as.zip ps, H1 p.1 = some (HO.tup [V.int p.2.1, V.int p.2.2]) := fun p hp => W1.fh _ _ (hzF p hp)
  refine ⟨p, as.zip ps, D, rfl, ?_, hzH, fun p hp => hD _ (by rw [← eB]; exact List.mem_map_of_mem hp), few, fun d L hd sub all => ?_⟩
  · rw [hp, ← eA, List.map_map, eA]
    rfl
  have ne : ∀ p ∈ L, p.1 ≠ d := fun p hp e => by
    have z := hzH p (sub p hp)
    rw [e, hd] at z
    cases z
  have ups : ∀ p ∈ L, upd H1 d (SetTO X.prog X.w d (L.map lp)) p.1 = some (HO.tup [V.int p.2.1, V.int p.2.2]) := fun p hp => by
    rw [upd_ne (ne p hp)]
    exact hzH p (sub p hp)
  refine ⟨d, L, rfl, upd_same, ups, fun bs l pb hs hl => ?_⟩
  have W2 := W1.other (o := SetTO X.prog X.w d (L.map lp)) hd
  have eb : bs.map (prA (upd H1 d (SetTO X.prog X.w d (L.map lp)))) = bs.map (prA F1) := List.map_congr_left fun a ha => by
    obtain ⟨p, hp, rfl⟩ := List.mem_map.mp (pb.mem_iff.mp ha)
    rw [prA_of (ups p hp), prA_of (hzF p (sub p hp))]
  rw [eb] at hs
  have pF : PrH F1 bs (bs.map (prA F1)) := prH_mk fun a ha => by
    obtain ⟨p, hp, rfl⟩ := List.mem_map.mp (pb.mem_iff.mp ha)
    have z := hzF p (sub p hp)
    rw [prA_of z]
    exact z
  refine s _ _ _ F1 _ (q l (bs.map (prA F1)) hs fun z => ?_) (W2.newl hl (pairs_out (H := H1) pF)) s1 rfl
  constructor
  · intro hz
    obtain ⟨a, ha, rfl⟩ := List.mem_map.mp hz
    obtain ⟨p, hp, rfl⟩ := List.mem_map.mp (pb.mem_iff.mp ha)
    rw [prA_of (hzF p (sub p hp)), ← eB]
    exact List.mem_map_of_mem (sub p hp)
  · intro hz
    rw [← eB] at hz
    obtain ⟨p, hp, rfl⟩ := List.mem_map.mp hz
    obtain ⟨p', hp', e⟩ := List.mem_map.mp (all p hp)
    refine List.mem_map.mpr ⟨p'.1, pb.mem_iff.mpr (List.mem_map_of_mem hp'), ?_⟩
    rw [prA_of (hzF p' (sub p' hp'))]
    exact e
end
end G

namespace G
open PySem PySem.Spec PyProof.Rows L2
theorem dup_less {α : Type} [DecidableEq α] : ∀ l : List α, ¬ l.Nodup → ∃ D : List α, D.length < l.length ∧ ∀ x ∈ l, x ∈ D
  | [], h => absurd List.nodup_nil h
  | x :: t, h => by
    by_cases hx : x ∈ t
    · exact ⟨t, by simp, fun y hy => by
        rcases List.mem_cons.mp hy with e | e
        · rw [e]; exact hx
        · exact e⟩
    · obtain ⟨D, h1, h2⟩ := dup_less t fun nd => h (List.nodup_cons.mpr ⟨hx, nd⟩)
      exact ⟨x :: D, by simp; omega, fun y hy => by
        rcases List.mem_cons.mp hy with e | e
        · rw [e]; exact List.mem_cons_self
        · exact List.mem_cons_of_mem _ (h2 y e)⟩
section
variable {X : Cx} {ρ : List SD} {M : Mem} {Q : Kn} {pos p p2 cpos : Pos} {e : Expr}
/-- len(s) of a followed set of ints -/
def rLenSet (w : World) : List V → Hp → VK → Prop := fun vs H Q => ∃ (a : Addr) (S : Int → Bool) (n : Nat), vs = [V.ref a] ∧ H a = some (SetO w a S n) ∧ n ≤ 4000 ∧ ∀ ds : List Int, ds.Nodup → (∀ k : Int, k ∈ ds ↔ S k = true) → ds.length = n → Q (.int n) H
theorem cr_lenSet : CallR X (.builtin "len") (rLenSet X.w) := by
  intro pins s σ H vs us Q I r h
  obtain ⟨a, S, n, rfl, ha, hz, q⟩ := h
  rw [Vals.ref1 r]
  obtain ⟨o, es, ep, t, ho, hex, hd, g, nd, hm, hb, hf, hn, hr, hl⟩ := setO_get I ha
  refine call_len_set ho hex hd hf (by omega) ?_
  have e : (es.toList.map keyOf).length = n := by rw [List.length_map, Array.length_toList]; exact hn
  have q := q (es.toList.map keyOf) nd (fun k => by rw [← hm k]) e
  have z : (es.size : Int) = (n : Int) := by rw [hn]
  rw [z]
  exact ⟨.int _, H, I.tok _, ⟨_, rfl⟩, q⟩
/-- len(set(xs)) of ints, equal ones among them -/
theorem glenset2 (hc : X.calm = true) (hm : X.mg "len" = none) (hm2 : X.mg "set" = none) (h : GE X ρ M e fun x M1 => ∃ ns, LV M1 x (pints ns) ∧ ns.length ≤ 4000 ∧ ∀ n : Nat, n ≤ ns.length → (n = ns.length ↔ ns.Nodup) → Q (.pu (.int (n : Nat))) M1)
    (hg : Gl X "len" := by rfl) (hg2 : Gl X "set" := by rfl) (he : starEach [e] X.env = [(false, eval e X.env)] := by rfl)
    (he2 : starEach [.Call (.Name "set" p2) [e] [] cpos] X.env = [(false, eval (.Call (.Name "set" p2) [e] [] cpos) X.env)] := by rfl) : GE X ρ M (.Call (.Name "len" p) [.Call (.Name "set" p2) [e] [] cpos] [] pos) Q := .mk fun B F H σ Q' W S s => by
  refine wE_of (pe_callB cr_lenSet hg hm boot_len (pa_cons (pe_callTy (cr_setI hc) hg2 hm2 boot_set (pa_cons pE pa_nil he) (by decide) (by decide) he) pa_nil he2) (by decide) (by decide) he2) ?_
  refine h B F H σ _ W S fun x M1 v F1 H1 hx W1 s1 vx => ?_
  obtain ⟨ns, lv, hz, q⟩ := hx
  obtain ⟨p, vs, rfl, hp, pr⟩ := lv.at W1 vx
  have ev := ints_of pr
  subst ev
  refine ⟨p, ns, rfl, hp, hz, fun d n hd hn => ?_⟩
  refine ⟨d, _, n, rfl, upd_same, Nat.le_trans hn hz, fun ds nd hds hl => ?_⟩
  have W2 := W1.other (o := SetO X.w d (fun j => decide (j ∈ ns)) n) hd
  have hds : ∀ k, k ∈ ds ↔ k ∈ ns := fun k => by rw [hds k, decide_eq_true_iff]
  refine s _ _ _ F1 _ (q n hn ⟨fun e => ?_, fun h2 => ?_⟩) W2 s1 (.int _)
  · apply Classical.byContradiction
    intro z
    obtain ⟨D, d1, d2⟩ := dup_less ns z
    have := few_nodup ds D nd fun k hk => d2 k ((hds k).mp hk)
    omega
  · have := few_nodup ns ds h2 fun k hk => (hds k).mpr hk
    omega
end
end G

namespace K04
open PySem PySem.Spec PyProof.Rows L2 G
abbrev sOrds : Stmt := topS 34
def ordStep (s : Nat) (L : Tab) : Tab := L.flatMap fun row => ((List.range s).filter fun o : Nat => !row.any fun z => decide (z = (o : Int))).map fun o : Nat => row ++ [(o : Int)]
def ords (s : Nat) : Nat → Tab
  | 0 => [[]]
  | k + 1 => ordStep s (ords s k)
def ext (s : Nat) (row : List Int) : Tab := ((List.range s).filter fun o : Nat => !row.any fun z => decide (z = (o : Int))).map fun o : Nat => row ++ [(o : Int)]
theorem ordStep_eq (s : Nat) (L : Tab) : ordStep s L = (L.map (ext s)).flatten := by
  unfold ordStep ext
  rw [List.flatMap_def]
theorem ords_rng {s k : Nat} (hs : s ≤ 6) (hk : k ≤ s) : 0 < (ords s k).length ∧ (ords s k).length ≤ 720 ∧ ∀ r ∈ ords s k, r.length ≤ 6 := by
  have z : ∀ s : Fin 7, ∀ k : Fin 7, decide (0 < (ords s.val k.val).length ∨ s.val < k.val) = true ∧ decide ((ords s.val k.val).length ≤ 720) = true ∧ (ords s.val k.val).all (fun r => decide (r.length ≤ 6)) = true := by decide +kernel
  obtain ⟨h1, h2, h3⟩ := z ⟨s, by omega⟩ ⟨k, by omega⟩
  have h1 := of_decide_eq_true h1
  refine ⟨?_, of_decide_eq_true h2, fun r hr => of_decide_eq_true (List.all_eq_true.mp h3 r hr)⟩
  dsimp only at h1
  omega
theorem lv_ext {M : Mem} (s : Nat) : ∀ L : Tab, Paired (LV M) (L.map fun row => SD.pu (.list ((ext s row).map rowD))) (L.map fun row => ((ext s row).map rowD).map SD.pu)
  | [] => .nil
  | a :: L => .cons .pu (lv_ext s L)
theorem any_intd (row : List Int) (o : Int) : ((row.map PyData.int).any fun z => PyData.eqv z (.int o)) = row.any fun z => decide (z = o) := by
  rw [List.any_map]
  rfl
section
variable {P : Program} {w : World} {K : PySem.W.Frag} {mg : Str → Option Value} {base : Heap} {f : Addr} {fd : FuncData} {k : Nat}
abbrev NLTurned : List Str := ["_law_net", "_law_row", "_law_y"]
theorem scLTurned : FnScope NLTurned ["_law_net"] (defScope sLTurned) := ⟨rfl, rfl, rfl, by decide +kernel, rfl, by decide +kernel, by decide +kernel⟩
theorem fLTurned (F : Fun K "_law_turned" "_law_turned" sLTurned f fd) (b : Bl mg) : FnG P w K mg base (k + 1) f fd ["_law_net"] STurned := by
  refine fnG F scLTurned (fun rs M Kk ⟨T, n, t, e, _⟩ => by rw [e]; rfl) fun cdv A outer s0 H hgd hr rs M Kk hS => ?_
  obtain ⟨T, n, t, rfl, rfl, q⟩ := hS
  have h8 := t.le
  have h9 := t.nle
  refine bone (sret (gz (glc (.name 2) (own := [("_law_y", 2)]) rfl scLTurned.nd (blkOk_by (N := NLTurned) (sc := defScope sLTurned) (by decide +kernel)) (fun _ _ _ _ _ => pg_name (i := 2) scLTurned.nd rfl (Or.inr rfl)) (by decide) (igr1 b.range (glen b.len (gix (gv 0 rfl (gi ⟨(0 : Nat), _, rfl, tab_ix t.pos, _, row_len, _, rfl, ?_, ?_, ?_⟩))))))))
  · rw [t.row t.pos]
    omega
  · omega
  rw [t.row t.pos, Int.toNat_natCast]
  refine lc_map (fun j => .pu (rowD (T.map fun r => r.getD j 0))) (by omega) (fun j hj => ?_) fun l => ⟨l, (turn T n).map rowD, [], rfl, ?_, q _⟩
  · refine ⟨_, rfl, ?_⟩
    rintro Y ⟨s', H', C, cl, fp, rfl⟩
    refine gz (glc (.name 1) (own := [("_law_row", 1)]) rfl scLTurned.nd (blkOk_by (by kernel_rfl)) (fun _ _ _ _ _ => pg_name (i := 1) scLTurned.nd rfl (Or.inl rfl)) (by decide) (iglist (gv 0 rfl ⟨T.map rowD, rfl, ?_⟩)))
    rw [List.length_map]
    refine lc_map (fun i => .pu (.int ((T.getD i []).getD j 0))) (by omega) (fun i hi => ?_) fun l => ⟨l, (T.map fun r => r.getD j 0).map .int, [], rfl, ?_, rfl, rfl⟩
    · have hjr : j < T[i].length := by rw [t.row hi]; exact hj
      rw [nth_map rowD [] hi, G.getD_at hi, G.getD_at hjr]
      refine ⟨_, rfl, ?_⟩
      rintro Y ⟨s2, H2, C2, cl2, fp2, rfl⟩
      exact gix (gv 1 rfl (gv 2 rfl ⟨(j : Nat), _, rfl, row_ix hjr, rfl, rfl⟩))
    · rw [range_map T [] (fun r => SD.pu (.int (r.getD j 0))), List.map_map, List.map_map]
      rfl
  · unfold turn
    rw [List.map_map, List.map_map]
    rfl
abbrev NOrds : List Str := ["_law_size", "_law_told", "_law_k", "_law_row", "_law_one"]
theorem scOrds : FnScope NOrds ["_law_size"] (defScope sOrds) := ⟨rfl, rfl, rfl, by decide +kernel, rfl, by decide +kernel, by decide +kernel⟩
def SOrds : GSpec := fun rs M Kk => ∃ s : Nat, s ≤ 6 ∧ rs = [.pu (.int (s : Int))] ∧ M = [] ∧ ∀ M', Kk (.pu (tab (ords s s))) M'
theorem ords_mono : ∀ rs M Kk Kk', SOrds rs M Kk → (∀ r M', Kk r M' → Kk' r M') → SOrds rs M Kk' := fun rs M Kk Kk' ⟨s, h1, e, mm, q⟩ h => ⟨s, h1, e, mm, fun M' => h _ _ (q M')⟩
theorem fOrds (F : Fun K "_law_orders" "_law_orders" sOrds f fd) (b : Bl mg) : FnG P w K mg base (k + 1) f fd ["_law_size"] SOrds := by
  refine fnG F scOrds (fun rs M Kk ⟨_, _, e, _⟩ => by rw [e]; rfl) fun cdv A outer s0 H hgd hr rs M Kk hS => ?_
  obtain ⟨s, hs, rfl, rfl, q⟩ := hS
  have hu65 : A.units + 3 + 65 < cLine := by
    have z : A.units + 3 + 16 * k + 200 < cLine := hr.un
    omega
  refine bcons (sset 1 scOrds.nd (glit (.list [.list []]) rfl ?_) (hx := by first | exact .inl rfl | exact .inr rfl))
  refine bseq (fun ρ' M' => ∃ z2 z3 z4, ρ' = [.pu (.int (s : Int)), .pu (tab (ords s s)), z2, z3, z4]) (sfor PassesOwn.never rfl (igr1 b.range (gv 0 rfl ⟨(s : Int), rfl, by omega, by omega, fun i ρ' M' => ∃ z2 z3 z4, ρ' = [.pu (.int (s : Int)), .pu (tab (ords s i)), z2, z3, z4], ⟨_, _, _, rfl⟩, fun i ρ' M' hi h => ?_, fun ρ' M' h => ?_⟩))) fun ρ' M' h => ?_
  · obtain ⟨z2, z3, z4, rfl⟩ := h
    have hi : i < s := hi
    obtain ⟨l0, l720, l6⟩ := ords_rng hs (Nat.le_of_lt hi)
    obtain ⟨m0, m720, _⟩ := ords_rng hs (show i + 1 ≤ s from hi)
    have eS : ords s (i + 1) = ordStep s (ords s i) := rfl
    rw [eS, ordStep_eq] at m720
    refine tgname 2 (gbforget (List.nil_sublist _) ?_) scOrds.nd
    have en : ords s (i + 1) = ((ords s i).map (ext s)).flatten := by rw [eS, ordStep_eq]
    generalize hL : ords s i = L at l0 l720 l6 m720 en
    refine bone (sset 1 scOrds.nd (gzs (gsumL rfl b.sum (glc (.name 3) (own := [("_law_row", 3)]) rfl scOrds.nd (blkOk_by (N := NOrds) (sc := defScope sOrds) (by decide +kernel)) (fun _ _ _ _ _ => pg_name (i := 3) scOrds.nd rfl (by first | exact .inl rfl | exact .inr rfl)) (by decide) (iglist (gv 1 rfl ⟨L.map rowD, rfl, ?_⟩))))) (hx := by first | exact .inl rfl | exact .inr rfl))
    rw [List.length_map]
    refine lc_map (fun x => .pu (.list ((ext s (L.getD x [])).map rowD))) (by omega) (fun x hx => ?_) fun l1 => ?_
    · rw [nth_map rowD [] hx, G.getD_at hx]
      have h6 := l6 _ (List.getElem_mem hx)
      generalize L[x] = row at h6
      refine ⟨_, rfl, ?_⟩
      rintro Y ⟨s', H', C, cl, fp, rfl⟩
      refine gz (glc (.name 4) (own := [("_law_one", 4)]) rfl scOrds.nd (blkOk_by (by kernel_rfl)) (fun _ _ _ _ _ => pg_name (i := 4) scOrds.nd rfl (Or.inl rfl)) (by decide) (igr1 b.range (gv 0 rfl ⟨(s : Int), rfl, by omega, by omega, ?_⟩)))
      rw [Int.toNat_natCast]
      refine lc_fm (fun o => !row.any fun z => decide (z = (o : Int))) (fun o => .pu (rowD (row ++ [(o : Int)]))) (by omega) (fun o ho => ⟨_, rfl, ?_, fun _ => ?_⟩) fun l2 => ⟨l2, (ext s row).map rowD, [], rfl, ?_, rfl, rfl⟩
      · rintro Y ⟨s2, H2, C2, cl2, fp2, rfl⟩
        refine gts_one (tni hu65 (gv 4 rfl ⟨.int (o : Int), rfl, rfl, gv 3 rfl ⟨row.map .int, .pu _, shaped_ints' _, ?_, rfl⟩⟩))
        rw [any_intd]
      · rintro Y ⟨s2, H2, C2, cl2, fp2, rfl⟩
        refine gzs (gcat (gv 3 rfl (glst (acons (gv 4 rfl (anil ⟨le1, fun l3 => ⟨pints row, pints [(o : Int)], ?_, .mem List.mem_cons_self, ?_, fun l4 => ⟨l4, _, (row ++ [(o : Int)]).map .int, _, [], rfl, rfl, ?_, List.nil_sublist _, rfl, rfl⟩⟩⟩))))))
        · rw [pints_pu']
          exact .pu
        · rw [List.length_map, List.length_map]
          show row.length + 1 ≤ 100000
          omega
        · rw [← pints_pu']
          exact (List.map_append).symm
      · unfold fm ext
        rw [List.map_map, List.map_map]
        rfl
    · refine glst (anil ⟨Nat.zero_le _, fun st => ⟨_, L.map fun row => ((ext s row).map rowD).map SD.pu, st, .mem (List.mem_cons_of_mem _ List.mem_cons_self), ?_, ?_, rfl, List.mem_cons_self, ?_, fun l2 => ⟨l2, _, (ords s (i + 1)).map rowD, _, [], rfl, rfl, ?_, List.nil_sublist _, _, _, _, rfl⟩⟩⟩)
      · rw [range_map L [] (fun row => SD.pu (.list ((ext s row).map rowD)))]
        exact lv_ext s L
      · intro e
        have := congrArg List.length e
        rw [List.length_map] at this
        rw [this] at l0
        exact absurd l0 (by decide)
      · have e : (L.map fun row => ((ext s row).map rowD).map SD.pu).flatten = (((L.map (ext s)).flatten).map rowD).map SD.pu := by
          rw [List.map_flatten, List.map_flatten, List.map_map, List.map_map]
          rfl
        rw [e, List.length_map, List.length_map]
        omega
      · have e : (L.map fun row => ((ext s row).map rowD).map SD.pu).flatten = (((L.map (ext s)).flatten).map rowD).map SD.pu := by
          rw [List.map_flatten, List.map_flatten, List.map_map, List.map_map]
          rfl
        rw [e, en]
  · rw [Int.toNat_natCast] at h
    exact h
  obtain ⟨z2, z3, z4, rfl⟩ := h
  exact bone (sret (gv 1 rfl (q _)))
end
end K04

namespace K04
open PySem PySem.Spec PyProof.Rows L2 G
abbrev sUp : Stmt := topS 26
abbrev sRis : Stmt := topS 28
theorem eqv_nil (ds : List PyData) : PyData.eqv (.list ds) (.list []) = ds.isEmpty := by
  cases ds <;> rfl
theorem fm_int (n : Nat) (c : Nat → Bool) (g : Nat → Int) : fm n c (fun i => SD.pu (.int (g i))) = ((((List.range n).filter c).map g).map PyData.int).map SD.pu := by
  unfold fm
  rw [List.map_map, List.map_map]
  rfl
theorem up_empty (V : List Int) : ((((List.range (V.length - 1)).filter fun i => decide (V.getD (i + 1) 0 ≤ V.getD i 0)).map fun i : Nat => 1 + (i : Int)).map PyData.int).isEmpty = upB V := by
  unfold upB
  rw [List.isEmpty_map, List.isEmpty_map]
  refine Bool.eq_iff_iff.mpr ?_
  rw [List.isEmpty_iff, List.filter_eq_nil_iff, List.all_eq_true]
  constructor
  · intro h i hi
    have := h i hi
    simp at this
    exact decide_eq_true this
  · intro h i hi
    have := of_decide_eq_true (h i hi)
    simp
    exact this
theorem lots_empty (L : Tab) : ((L.filter fun r => !upB r).map rowD).isEmpty = L.all upB := by
  rw [List.isEmpty_map]
  refine Bool.eq_iff_iff.mpr ?_
  rw [List.isEmpty_iff, List.filter_eq_nil_iff, List.all_eq_true]
  exact ⟨fun h r hr => by simpa using h r hr, fun h r hr => by rw [h r hr]; decide⟩
theorem tab_ne {T : Tab} {n : Nat} (t : IsTab T n) : T.map pints ≠ [] := fun e => by
  have z := congrArg List.length e
  rw [List.length_map] at z
  have := t.pos
  rw [z] at this
  exact absurd this (by decide)
theorem row_at {V : List Int} {M : Mem} {i : Nat} (h : i < V.length) : Item M (.pu (rowD V)) (i : Int) (.pu (.int (V.getD i 0))) := by
  rw [G.getD_at h]
  exact row_ix h
section
variable {P : Program} {w : World} {K : PySem.W.Frag} {mg : Str → Option Value} {base : Heap} {f : Addr} {fd : FuncData} {k : Nat}
abbrev NUp : List Str := ["_law_row", "_law_at"]
theorem scUp : FnScope NUp ["_law_row"] (defScope sUp) := ⟨rfl, rfl, rfl, by decide +kernel, rfl, by decide +kernel, by decide +kernel⟩
def SUp : GSpec := fun rs M Kk => ∃ V : List Int, V.length ≤ 1000 ∧ rs = [.pu (rowD V)] ∧ M = [] ∧ ∀ M', Kk (.pu (.bool (upB V))) M'
theorem up_mono : ∀ rs M Kk Kk', SUp rs M Kk → (∀ r M', Kk r M' → Kk' r M') → SUp rs M Kk' := fun rs M Kk Kk' ⟨V, v, e, m, q⟩ h => ⟨V, v, e, m, fun M' => h _ _ (q M')⟩
theorem fUp (F : Fun K "_law_up" "_law_up" sUp f fd) (b : Bl mg) : FnG P w K mg base (k + 1) f fd ["_law_row"] SUp := by
  refine fnG F scUp (fun rs M Kk ⟨_, _, e, _⟩ => by rw [e]; rfl) fun cdv A outer s H hgd hr rs M Kk hS => ?_
  obtain ⟨V, v, rfl, rfl, q⟩ := hS
  have hu64 : A.units + 3 + 64 < cLine := by
    have z : A.units + 3 + 16 * k + 200 < cLine := hr.un
    omega
  refine bone (sret (geqD hu64 (gz (glc (.name 1) (own := [("_law_at", 1)]) rfl scUp.nd (blkOk_by (N := NUp) (sc := defScope sUp) (by decide +kernel)) (fun _ _ _ _ _ => pg_name (i := 1) scUp.nd rfl (by first | exact .inl rfl | exact .inr rfl)) (by decide) (igr2 b.range (gi ⟨1, rfl, glen b.len (gv 0 rfl ⟨_, row_len, _, rfl, ⟨by omega, by omega, by omega, by omega⟩, ?_⟩)⟩))))))
  rw [show ((V.length : Int) - 1).toNat = V.length - 1 by omega]
  refine lc_fm (fun i => decide (V.getD (i + 1) 0 ≤ V.getD i 0)) (fun i => .pu (.int (1 + (i : Int)))) (by omega) (fun i hi => ?_) fun l => ⟨l, (((List.range (V.length - 1)).filter fun i => decide (V.getD (i + 1) 0 ≤ V.getD i 0)).map fun i : Nat => 1 + (i : Int)).map .int, [], rfl, by rw [fm_int], .list _, .pu _, shaped_ints' _, glst (anil ⟨Nat.zero_le _, fun l2 => ⟨.list [], .pu _, .mem List.mem_cons_self .nil, rfl, ?_⟩⟩)⟩
  · refine ⟨_, rfl, ?_, fun _ => ?_⟩
    · rintro Y ⟨s2, H2, C2, cl2, fp2, rfl⟩
      refine gts_one (tge (gix (gv 0 rfl (gsub (gv 1 rfl ⟨_, rfl, gi ⟨1, rfl, 1 + (i : Int) - 1, .pu (.int (V.getD i 0)), rfl, ?_, _, rfl, gix (gv 0 rfl (gv 1 rfl ⟨1 + (i : Int), .pu (.int (V.getD (i + 1) 0)), rfl, ?_, _, rfl, rfl, rfl⟩))⟩⟩)))))
      · rw [show 1 + (i : Int) - 1 = ((i : Nat) : Int) by omega]
        exact row_at (by omega)
      · rw [show 1 + (i : Int) = ((i + 1 : Nat) : Int) by omega]
        exact row_at (by omega)
    · rintro Y ⟨s2, H2, C2, cl2, fp2, rfl⟩
      exact gv 1 rfl ⟨rfl, rfl⟩
  dsimp only
  rw [eqv_nil, up_empty]
  exact q _
abbrev NRis : List Str := ["_law_net", "_law_values", "_law_lots", "_law_row"]
theorem scRis : FnScope NRis ["_law_net"] (defScope sRis) := ⟨rfl, rfl, rfl, by decide +kernel, rfl, by decide +kernel, by decide +kernel⟩
def SRis : GSpec := fun rs M Kk => ∃ T n, IsTab T n ∧ rs = [.pu (tab T)] ∧ M = [] ∧ ∀ M', Kk (.pu (.bool (riseB T n))) M'
theorem ris_mono : ∀ rs M Kk Kk', SRis rs M Kk → (∀ r M', Kk r M' → Kk' r M') → SRis rs M Kk' := fun rs M Kk Kk' ⟨T, n, t, e, m, q⟩ h => ⟨T, n, t, e, m, fun M' => h _ _ (q M')⟩
theorem fRis (F : Fun K "_law_rises" "_law_rises" sRis f fd) (b : Bl mg) (CT : Cal P w K mg base k "_law_turned" sLTurned ["_law_net"] STurned) (CU : Cal P w K mg base k "_law_up" sUp ["_law_row"] SUp) : FnG P w K mg base (k + 1) f fd ["_law_net"] SRis := by
  refine fnG F scRis (fun rs M Kk ⟨_, _, _, e, _⟩ => by rw [e]; rfl) fun cdv A outer s H hgd hr rs M Kk hS => ?_
  obtain ⟨T, n, t, rfl, rfl, q⟩ := hS
  have h8 := t.le
  have n8 := t.nle
  have hu64 : A.units + 3 + 64 < cLine := by
    have z : A.units + 3 + 16 * k + 200 < cLine := hr.un
    omega
  have fl := flat_len t.rows
  have fl64 : T.length * n ≤ 64 := Nat.mul_le_mul h8 n8
  have tl := turn_len T n
  refine bcons (sset 1 scRis.nd (gzs (gsumL rfl b.sum (gv 0 rfl (glst (anil ⟨Nat.zero_le _, fun st => ⟨_, T.map pints, st, .pu, lv_rows T, tab_ne t, rfl, List.mem_cons_self, ?_, fun l0 => ⟨l0, _, T.flatten.map .int, _, [], rfl, rfl, ?_, List.nil_sublist _, ?_⟩⟩⟩))))) (hx := by first | exact .inl rfl | exact .inr rfl))
  · rw [pints_flat, pints_len']
    omega
  · rw [pints_flat, pints_pu']
  refine bcons (sset 2 scRis.nd (gzs (gcat (gv 0 rfl (gcalD turned_mono CT hgd hr (acons (gv 0 rfl (anil ⟨T, n, t, rfl, rfl, fun M' => ⟨(T.map rowD).map .pu, ((turn T n).map rowD).map .pu, .pu, .pu, ?_, fun l => ⟨l, _, (T ++ turn T n).map rowD, _, [], rfl, rfl, ?_, List.nil_sublist _, ?_⟩⟩⟩))))))) (hx := by first | exact .inl rfl | exact .inr rfl))
  · rw [List.length_map, List.length_map, List.length_map, List.length_map, tl]
    omega
  · rw [List.map_append, List.map_append]
  refine bone (sret (gand (geqI (glenset2 rfl b.len b.set (gv 1 rfl ⟨T.flatten, ?_, ?_, fun m hm hn => ⟨_, rfl, glen b.len (gv 1 rfl ⟨_, row_len, _, rfl, _, rfl, iteB (fun hd => ?_) fun hd => ?_⟩)⟩⟩)))))
  · rw [pints_pu']
    exact .pu
  · omega
  · have nd := hn.mp (by have := of_decide_eq_true hd; omega)
    refine geqD hu64 (gz (glc (.name 3) (own := [("_law_row", 3)]) rfl scRis.nd (blkOk_by (N := NRis) (sc := defScope sRis) (by decide +kernel)) (fun _ _ _ _ _ => pg_name (i := 3) scRis.nd rfl (by first | exact .inl rfl | exact .inr rfl)) (by decide) (iglist (gv 2 rfl ⟨(T ++ turn T n).map rowD, rfl, ?_⟩))))
    have ll : (T ++ turn T n).length ≤ 16 := by rw [List.length_append, tl]; omega
    have rl : ∀ r ∈ T ++ turn T n, r.length ≤ 8 := fun r hr => by
      rcases List.mem_append.mp hr with h | h
      · rw [t.rows r h]; exact n8
      · rw [(turn_is t).rows r h]; exact h8
    have eb : (T ++ turn T n).all upB = riseB T n := by
      unfold riseB
      rw [List.all_append, decide_eq_true nd, Bool.true_and]
    generalize T ++ turn T n = L at ll rl eb
    rw [List.length_map]
    refine lc_fm (fun i => !upB (L.getD i [])) (fun i => .pu (rowD (L.getD i []))) (by omega) (fun i hi => ?_) fun l => ⟨l, (L.filter fun r => !upB r).map rowD, [], rfl, ?_, .list _, .pu _, ?_, glst (anil ⟨Nat.zero_le _, fun l2 => ⟨.list [], .pu _, .mem List.mem_cons_self .nil, rfl, ?_⟩⟩)⟩
    · rw [nth_map rowD [] hi, G.getD_at hi]
      refine ⟨_, rfl, ?_, fun _ => ?_⟩
      · rintro Y ⟨s2, H2, C2, cl2, fp2, rfl⟩
        exact gts_one (tnot (tval (gcalD up_mono CU hgd hr (acons (gv 3 rfl (anil ⟨L[i], Nat.le_trans (rl _ (List.getElem_mem hi)) (by decide), rfl, rfl, fun M' => ⟨_, rfl, rfl, rfl⟩⟩))))))
      · rintro Y ⟨s2, H2, C2, cl2, fp2, rfl⟩
        exact gv 3 rfl ⟨rfl, rfl⟩
    · rw [fm_list L [] (fun r => !upB r) (fun r => SD.pu (rowD r)), List.map_map]
      rfl
    · exact shaped_tab _
    · dsimp only
      rw [eqv_nil, lots_empty, eb]
      exact q _
  · have e : riseB T n = false := by
      unfold riseB
      rw [decide_eq_false fun nd => by
        have := hn.mpr nd
        have := of_decide_eq_false hd
        omega]
      rfl
    rw [← e]
    exact q _
end
end K04

namespace K04
open PySem PySem.Spec PyProof.Rows L2 G
abbrev sWR : Stmt := topS 29
abbrev sRws : Stmt := topS 30
abbrev sCls : Stmt := topS 31
theorem cutL_from {α : Type} (xs : List α) (i : Nat) : cutL xs (some (i : Int)) none = xs.drop i := by
  unfold cutL
  rw [HT.sIx_nat, HT.sIx_none]
  by_cases h : i ≤ xs.length
  · rw [Nat.min_eq_left h]
    exact List.take_of_length_le (by rw [List.length_drop]; omega)
  · rw [Nat.min_eq_right (by omega), List.drop_of_length_le (Nat.le_refl _), List.drop_of_length_le (by omega), List.take_nil]
theorem cutL_to {α : Type} (xs : List α) (j : Nat) : cutL xs none (some (j : Int)) = xs.take j := by
  unfold cutL
  rw [HT.sIx_nat, HT.sIx_none, Nat.sub_zero, List.drop_zero]
  by_cases h : j ≤ xs.length
  · rw [Nat.min_eq_left h]
  · rw [Nat.min_eq_right (by omega), List.take_of_length_le (Nat.le_refl _), List.take_of_length_le (by omega)]
section
variable {P : Program} {w : World} {K : PySem.W.Frag} {mg : Str → Option Value} {base : Heap} {f : Addr} {fd : FuncData} {k : Nat}
theorem all_mono : ∀ rs M Kk Kk', SAll rs M Kk → (∀ r M', Kk r M' → Kk' r M') → SAll rs M Kk' := fun rs M Kk Kk' ⟨T, n, t, e, m, q⟩ h => ⟨T, n, t, e, m, fun M' => h _ _ (q M')⟩
abbrev NWR : List Str := ["_law_net", "_law_due"]
theorem scWR : FnScope NWR ["_law_net"] (defScope sWR) := ⟨rfl, rfl, rfl, by decide +kernel, rfl, by decide +kernel, by decide +kernel⟩
def SWR : GSpec := fun rs M Kk => ∃ T n, IsTab T n ∧ rs = [.pu (tab T)] ∧ M = [] ∧ ∀ M', Kk (.pu (.bool true)) M'
theorem wr_mono : ∀ rs M Kk Kk', SWR rs M Kk → (∀ r M', Kk r M' → Kk' r M') → SWR rs M Kk' := fun rs M Kk Kk' ⟨T, n, t, e, m, q⟩ h => ⟨T, n, t, e, m, fun M' => h _ _ (q M')⟩
theorem fWR (F : Fun K "_law_whole_right" "_law_whole_right" sWR f fd) (b : Bl mg) (CR : Cal P w K mg base k "_law_rises" sRis ["_law_net"] SRis) (CA : Cal P w K mg base k "all_found" sAll ["table"] SAll) (CP : Cal P w K mg base k "found_places" sPlaces ["table"] SPF) (CB : Cal P w K mg base k "found_from_below" sBelow ["table"] SBelow) : FnG P w K mg base (k + 1) f fd ["_law_net"] SWR := by
  refine fnG F scWR (fun rs M Kk ⟨_, _, _, e, _⟩ => by rw [e]; rfl) fun cdv A outer s H hgd hr rs M Kk hS => ?_
  obtain ⟨T, n, t, rfl, rfl, q⟩ := hS
  have h8 := t.le
  have n8 := t.nle
  have hu64 : A.units + 3 + 64 < cLine := by
    have z : A.units + 3 + 16 * k + 200 < cLine := hr.un
    omega
  refine bcons (sset 1 scWR.nd (gcalD ris_mono CR hgd hr (acons (gv 0 rfl (anil ⟨T, n, t, rfl, rfl, fun _ => ?_⟩)))))
  refine bcons (sif (tor (tneD hu64 (gcalD all_mono CA hgd hr (acons (gv 0 rfl (anil ⟨T, n, t, rfl, rfl, fun _ => ⟨.bool _, .pu _, rfl, gv 1 rfl ⟨.bool _, .pu _, .pu _, rfl, iteN ?_ ?_⟩⟩⟩)))))))
  · rw [all_due t, eqv_bool, decide_eq_true rfl]
    rfl
  refine tneD hu64 (geqI (glen b.len (gcalP CP hgd hr (acons (gv 0 rfl (anil ⟨T, n, t, rfl, rfl, fun l => ⟨_, .lst (.mem List.mem_cons_self), _, rfl, gmul (glen b.len (gv 0 rfl ⟨_, tab_len, _, rfl, glen b.len (gix (gv 0 rfl (gi ⟨(0 : Nat), _, rfl, tab_ix t.pos, _, row_len, _, rfl, ?_, _, rfl, .bool _, .pu _, rfl, gv 1 rfl ⟨.bool _, .pu _, .pu _, rfl, iteN ?_ (gbforget (List.nil_sublist _) (bnil ?_))⟩⟩)))⟩))⟩⟩))))))
  · rw [t.row t.pos]
    exact .inl (by omega)
  · rw [t.row t.pos, List.length_map, all_due t, eqv_bool, decide_eq_true rfl]
    rfl
  refine bone (sret (geqD hu64 (geqI (glen b.len (gcalP CB hgd hr (acons (gv 0 rfl (anil ⟨T, n, t, rfl, rfl, fun l qs hp _ => ⟨_, .lst (.mem List.mem_cons_self), _, rfl, gmul (glen b.len (gv 0 rfl ⟨_, tab_len, _, rfl, glen b.len (gix (gv 0 rfl (gi ⟨(0 : Nat), _, rfl, tab_ix t.pos, _, row_len, _, rfl, ?_, _, rfl, .bool _, .pu _, rfl, gv 1 rfl ⟨.bool _, .pu _, .pu _, rfl, ?_⟩⟩)))⟩))⟩⟩))))))))
  · rw [t.row t.pos]
    exact .inl (by omega)
  · have e : decide ((qs.length : Int) = (T.length : Int) * (n : Int)) = riseB T n := by
      have z : qs.length = (foundIn (turn T n) T.length).length := by rw [hp.length_eq]; simp [belowOf]
      have a := all_due (turn_is t)
      rw [turn_len] at a
      rw [z, Int.mul_comm, a]
      refine Bool.eq_iff_iff.mpr ?_
      rw [rise_iff (turn_is t), rise_iff t, turn_rise]
    rw [t.row t.pos, List.length_map, e]
    dsimp only
    rw [eqv_bool, decide_eq_true rfl]
    exact q _
theorem fnd_mono : ∀ rs M Kk Kk', SFound rs M Kk → (∀ r M', Kk r M' → Kk' r M') → SFound rs M Kk' := fun rs M Kk Kk' ⟨T, n, p, t, e, h1, h2, m, q⟩ h => ⟨T, n, p, t, e, h1, h2, m, fun M' => h _ _ (q M')⟩
/-! ### rows that rise -/
theorem rows_bad {T : Tab} {n x y : Nat} (r : RowsUp T n x y) : (((T.take x).filter fun z => decide (val T x y ≤ z.getD y 0)).map rowD).isEmpty = isF T n x y := by
  refine Bool.eq_iff_iff.mpr ?_
  rw [List.isEmpty_map, List.isEmpty_iff, List.filter_eq_nil_iff, isF_rec r]
  have hx := r.hx
  constructor
  · intro h i hi
    have hi2 : i < T.length := by omega
    have := h (T[i]) (List.mem_iff_getElem.mpr ⟨i, by rw [List.length_take]; omega, by rw [List.getElem_take]⟩)
    have e : val T i y = T[i].getD y 0 := by
      unfold val
      rw [G.getD_at hi2]
    rw [e]
    simp at this
    exact this
  · intro h z hz
    obtain ⟨i, hi, rfl⟩ := List.mem_iff_getElem.mp hz
    rw [List.length_take] at hi
    have hi2 : i < T.length := by omega
    have := h i (by omega)
    have e : val T i y = T[i].getD y 0 := by
      unfold val
      rw [G.getD_at hi2]
    rw [e] at this
    rw [List.getElem_take]
    simp
    exact this
abbrev NRws : List Str := ["_law_net", "_law_x", "_law_y", "_law_row"]
theorem scRws : FnScope NRws ["_law_net"] (defScope sRws) := ⟨rfl, rfl, rfl, by decide +kernel, rfl, by decide +kernel, by decide +kernel⟩
def SRws : GSpec := fun rs M Kk => ∃ T n, IsTab T n ∧ (∀ x y, x < T.length → y < n → RowsUp T n x y) ∧ rs = [.pu (tab T)] ∧ M = [] ∧ ∀ M', Kk (.pu (.bool true)) M'
theorem rws_mono : ∀ rs M Kk Kk', SRws rs M Kk → (∀ r M', Kk r M' → Kk' r M') → SRws rs M Kk' := fun rs M Kk Kk' ⟨T, n, t, u, e, m, q⟩ h => ⟨T, n, t, u, e, m, fun M' => h _ _ (q M')⟩
theorem fRws (F : Fun K "_law_rows_right" "_law_rows_right" sRws f fd) (b : Bl mg) (CF : Cal P w K mg base k "is_found" sFound ["table", "place"] SFound) : FnG P w K mg base (k + 1) f fd ["_law_net"] SRws := by
  refine fnG F scRws (fun rs M Kk ⟨_, _, _, _, e, _⟩ => by rw [e]; rfl) fun cdv A outer s H hgd hr rs M Kk hS => ?_
  obtain ⟨T, n, t, up, rfl, rfl, q⟩ := hS
  have h8 := t.le
  have n8 := t.nle
  have hu64 : A.units + 3 + 64 < cLine := by
    have z : A.units + 3 + 16 * k + 200 < cLine := hr.un
    omega
  refine bseq (fun ρ' M' => True) (sfor PassesOwn.never rfl (igr1 b.range (glen b.len (gv 0 rfl ⟨_, tab_len, _, rfl, by omega, by omega, ?_⟩)))) fun ρ' M' _ => bone (sret (gbl (q _)))
  rw [Int.toNat_natCast]
  refine ⟨fun i ρ' M' => ∃ z1 z2, ρ' = [.pu (tab T), z1, z2, .un] ∧ M' = [], ⟨_, _, rfl, rfl⟩, fun x ρ' M' hx h => ?_, fun _ _ _ => trivial⟩
  obtain ⟨z1, z2, rfl, rfl⟩ := h
  have hx : x < T.length := hx
  refine tgname 1 ?_ scRws.nd
  refine bone (sfor PassesOwn.never rfl (igr1 b.range (glen b.len (gix (gv 0 rfl (gi ⟨((0 : Nat) : Int), _, rfl, tab_ix t.pos, _, row_len, _, rfl, ?_⟩))))))
  rw [t.row t.pos]
  refine ⟨by omega, by omega, ?_⟩
  rw [Int.toNat_natCast]
  refine ⟨fun i ρ' M' => ∃ z2, ρ' = [.pu (tab T), .pu (.int (x : Int)), z2, .un] ∧ M' = [], ⟨_, rfl, rfl⟩, fun y ρ' M' hy h => ?_, fun ρ' M' ⟨z2, e1, e2⟩ => ⟨_, z2, e1, e2⟩⟩
  obtain ⟨z2, rfl, rfl⟩ := h
  refine tgname 2 ?_ scRws.nd
  refine bone (sif (tneD hu64 (gcalD fnd_mono CF hgd hr (acons (gv 0 rfl (acons (gtup (acons (gv 1 rfl (acons (gv 2 rfl (anil ⟨[.int (x : Int), .int (y : Int)], rfl, le2, anil ⟨T, n, (x, y), t, rfl, hx, hy, rfl, fun _ => ⟨.bool _, .pu _, rfl, ?_⟩⟩⟩))))))))))))
  refine geqD hu64 (gz (glc (.name 3) (own := [("_law_row", 3)]) rfl scRws.nd (blkOk_by (N := NRws) (sc := defScope sRws) (by decide +kernel)) (fun _ _ _ _ _ => pg_name (i := 3) scRws.nd rfl (by first | exact .inl rfl | exact .inr rfl)) (by decide) (iglist (gz (gsl (gv 0 rfl ?_))))))
  change GE _ _ _ _ _
  refine gv 1 rfl ⟨_, rfl, _, .pu, fun l2 => ⟨l2, (T.take x).map rowD, [], rfl, ?_, _, rfl, ?_⟩⟩
  · rw [cutL_to, ← List.map_take, ← List.map_take]
  rw [List.length_map]
  refine lc_fm (fun o => decide (val T x y ≤ ((T.take x).getD o []).getD y 0)) (fun o => .pu (rowD ((T.take x).getD o []))) (by rw [List.length_take]; omega) (fun o ho => ?_) fun l3 => ⟨l3, ((T.take x).filter fun z => decide (val T x y ≤ z.getD y 0)).map rowD, [], rfl, ?_, .list _, .pu _, shaped_tab _, glst (anil ⟨Nat.zero_le _, fun l4 => ⟨.list [], .pu _, .mem List.mem_cons_self .nil, rfl, .bool _, .pu _, .pu _, rfl, iteN ?_ (gbforget (List.nil_sublist _) (bnil ⟨_, rfl, rfl⟩))⟩⟩)⟩
  · rw [nth_map rowD [] ho]
    have ho2 : o < x ∧ o < T.length := by
      rw [List.length_take] at ho
      omega
    have eo : (T.take x).getD o [] = T[o] := by rw [G.getD_at ho, List.getElem_take]
    rw [eo]
    refine ⟨_, rfl, ?_, fun _ => ?_⟩
    · rintro Y ⟨s2, H2, C2, cl2, fp2, rfl⟩
      exact gts_one (tge (gix (gv 3 rfl (gv 2 rfl ⟨(y : Int), _, rfl, row_at (by rw [t.row ho2.2]; exact hy), _, rfl, gix (gix (gv 0 rfl (gv 1 rfl ⟨(x : Int), _, rfl, tab_ix hx, gv 2 rfl ⟨(y : Int), _, rfl, val_ix t hx hy, _, rfl, rfl, rfl⟩⟩)))⟩))))
    · rintro Y ⟨s2, H2, C2, cl2, fp2, rfl⟩
      exact gv 3 rfl ⟨rfl, rfl⟩
  · rw [fm_list (T.take x) [] (fun z => decide (val T x y ≤ z.getD y 0)) (fun z => SD.pu (rowD z)), List.map_map]
    rfl
  · rw [eqv_nil, rows_bad (up x y hx hy), eqv_bool, decide_eq_true rfl]
    rfl
/-! ### columns that rise -/
theorem cols_bad {T : Tab} {n x y : Nat} (t : IsTab T n) (r : ColsUp T n x y) : ((((T[x]'r.hx).drop (y + 1)).filter fun o => decide (o ≤ val T x y)).map PyData.int).isEmpty = isF T n x y := by
  have hx := r.hx
  have rl := t.row hx
  refine Bool.eq_iff_iff.mpr ?_
  rw [List.isEmpty_map, List.isEmpty_iff, List.filter_eq_nil_iff, isF_cols r]
  constructor
  · intro h c h1 h2
    have := h (val T x c) (by
      rw [t.val hx h2]
      refine List.mem_iff_getElem.mpr ⟨c - (y + 1), by rw [List.length_drop]; omega, ?_⟩
      rw [List.getElem_drop]
      congr 1
      omega)
    simp at this
    exact this
  · intro h v hv
    obtain ⟨c, hc, e⟩ := List.mem_iff_getElem.mp hv
    rw [List.length_drop] at hc
    rw [List.getElem_drop] at e
    have := h (y + 1 + c) (by omega) (by omega)
    rw [t.val (j := y + 1 + c) hx (by omega), e] at this
    simp
    exact this
abbrev NCls : List Str := ["_law_net", "_law_x", "_law_row", "_law_y", "_law_value", "_law_one"]
theorem scCls : FnScope NCls ["_law_net"] (defScope sCls) := ⟨rfl, rfl, rfl, by decide +kernel, rfl, by decide +kernel, by decide +kernel⟩
def SCls : GSpec := fun rs M Kk => ∃ T n, IsTab T n ∧ (∀ x y, x < T.length → y < n → ColsUp T n x y) ∧ rs = [.pu (tab T)] ∧ M = [] ∧ ∀ M', Kk (.pu (.bool true)) M'
theorem cls_mono : ∀ rs M Kk Kk', SCls rs M Kk → (∀ r M', Kk r M' → Kk' r M') → SCls rs M Kk' := fun rs M Kk Kk' ⟨T, n, t, u, e, m, q⟩ h => ⟨T, n, t, u, e, m, fun M' => h _ _ (q M')⟩
theorem fCls (F : Fun K "_law_columns_right" "_law_columns_right" sCls f fd) (b : Bl mg) (CF : Cal P w K mg base k "is_found" sFound ["table", "place"] SFound) : FnG P w K mg base (k + 1) f fd ["_law_net"] SCls := by
  refine fnG F scCls (fun rs M Kk ⟨_, _, _, _, e, _⟩ => by rw [e]; rfl) fun cdv A outer s H hgd hr rs M Kk hS => ?_
  obtain ⟨T, n, t, up, rfl, rfl, q⟩ := hS
  have h8 := t.le
  have n8 := t.nle
  have hu64 : A.units + 3 + 64 < cLine := by
    have z : A.units + 3 + 16 * k + 200 < cLine := hr.un
    omega
  refine bseq (fun ρ' M' => True) (sfor PassesOwn.never rfl (igenum b.enum (gv 0 rfl ⟨T.map rowD, rfl, ?_⟩))) fun ρ' M' _ => bone (sret (gbl (q _)))
  rw [List.length_map]
  refine ⟨fun i ρ' M' => ∃ z1 z2 z3 z4, ρ' = [.pu (tab T), z1, z2, z3, z4, .un] ∧ M' = [], ⟨_, _, _, _, rfl, rfl⟩, fun x ρ' M' hx h => ?_, fun _ _ _ => trivial⟩
  obtain ⟨z1, z2, z3, z4, rfl, rfl⟩ := h
  have hx : x < T.length := hx
  have rl := t.row hx
  rw [enu_at (by rw [List.length_map]; exact hx), List.getElem_map]
  refine tgtup (ds := [.int (x : Int), rowD T[x]]) rfl rfl (tgscons (tgname 1 (tgscons (tgname 2 (tgsnil ?_) scCls.nd)) scCls.nd))
  refine bone (sfor PassesOwn.never rfl (igenum b.enum (gv 2 rfl ⟨T[x].map .int, rfl, ?_⟩)))
  rw [List.length_map]
  refine ⟨fun i ρ' M' => ∃ z3 z4, ρ' = [.pu (tab T), .pu (.int (x : Int)), .pu (rowD T[x]), z3, z4, .un] ∧ M' = [], ⟨_, _, rfl, rfl⟩, fun y ρ' M' hy h => ?_, fun ρ' M' ⟨z3, z4, e1, e2⟩ => ⟨_, _, z3, z4, e1, e2⟩⟩
  obtain ⟨z3, z4, rfl, rfl⟩ := h
  have hy2 : y < T[x].length := hy
  have hy : y < n := by rwa [rl] at hy2
  have ev : T[x][y] = val T x y := (t.val hx hy).symm
  rw [enu_at (by rw [List.length_map]; exact hy2), List.getElem_map, ev]
  refine tgtup (ds := [.int (y : Int), .int (val T x y)]) rfl rfl (tgscons (tgname 3 (tgscons (tgname 4 (tgsnil ?_) scCls.nd)) scCls.nd))
  refine bone (sif (tneD hu64 (gcalD fnd_mono CF hgd hr (acons (gv 0 rfl (acons (gtup (acons (gv 1 rfl (acons (gv 3 rfl (anil ⟨[.int (x : Int), .int (y : Int)], rfl, le2, anil ⟨T, n, (x, y), t, rfl, hx, hy, rfl, fun _ => ⟨.bool _, .pu _, rfl, ?_⟩⟩⟩))))))))))))
  refine geqD hu64 (gz (glc (.name 5) (own := [("_law_one", 5)]) rfl scCls.nd (blkOk_by (N := NCls) (sc := defScope sCls) (by decide +kernel)) (fun _ _ _ _ _ => pg_name (i := 5) scCls.nd rfl (by first | exact .inl rfl | exact .inr rfl)) (by decide) (iglist (gz (gsl (gv 2 rfl ?_))))))
  refine (show GO _ _ _ _ (some _) from gadd (gv 3 rfl ⟨_, rfl, gi ⟨1, rfl, _, rfl, ?_⟩⟩))
  refine (show GO _ _ _ _ none from ⟨_, .pu, fun l2 => ⟨l2, (T[x].drop (y + 1)).map .int, [], rfl, ?_, _, rfl, ?_⟩⟩)
  · rw [show (y : Int) + 1 = ((y + 1 : Nat) : Int) by omega, cutL_from, List.map_drop, List.map_drop]
  rw [List.length_map]
  refine lc_fm (fun o => decide ((T[x].drop (y + 1)).getD o 0 ≤ val T x y)) (fun o => .pu (.int ((T[x].drop (y + 1)).getD o 0))) (by rw [List.length_drop]; omega) (fun o ho => ?_) fun l3 => ⟨l3, ((T[x].drop (y + 1)).filter fun o => decide (o ≤ val T x y)).map PyData.int, [], rfl, ?_, .list _, .pu _, shaped_ints' _, glst (anil ⟨Nat.zero_le _, fun l4 => ⟨.list [], .pu _, .mem List.mem_cons_self .nil, rfl, .bool _, .pu _, .pu _, rfl, iteN ?_ (gbforget (List.nil_sublist _) (bnil ⟨_, _, rfl, rfl⟩))⟩⟩)⟩
  · rw [nth_map PyData.int 0 ho]
    refine ⟨_, rfl, ?_, fun _ => ?_⟩
    · rintro Y ⟨s2, H2, C2, cl2, fp2, rfl⟩
      exact gts_one (tle (gv 5 rfl ⟨_, rfl, gv 4 rfl ⟨_, rfl, rfl, rfl⟩⟩))
    · rintro Y ⟨s2, H2, C2, cl2, fp2, rfl⟩
      exact gv 5 rfl ⟨rfl, rfl⟩
  · rw [fm_list (T[x].drop (y + 1)) 0 (fun o => decide (o ≤ val T x y)) (fun o => SD.pu (.int o)), List.map_map]
    rfl
  · rw [eqv_nil, cols_bad t (up x y hx hy), eqv_bool, decide_eq_true rfl]
    rfl
end
end K04

namespace G
open PySem PySem.Spec PyProof.Rows L2
/-! ### rows of unlike values, each put in order -/
theorem layN_nodup {m n : Nat} {L : List Int} (nd : L.Nodup) (hl : L.length = m * n) {i j i' j' : Nat} (hi : i < m) (hj : j < n) (hi' : i' < m) (hj' : j' < n) (h : val (layN m n L) i j = val (layN m n L) i' j') : i = i' ∧ j = j' := by
  rw [layN_val hi hj, layN_val hi' hj'] at h
  have a := lay_at hi hj
  have b := lay_at hi' hj'
  rw [List.getD_eq_getElem?_getD, List.getD_eq_getElem?_getD, List.getElem?_eq_getElem (by omega), List.getElem?_eq_getElem (by omega)] at h
  have pw := List.pairwise_iff_getElem.mp nd
  have e : i * n + j = i' * n + j' := by
    rcases Nat.lt_trichotomy (i * n + j) (i' * n + j') with z | z | z
    · exact absurd h (pw _ _ (by omega) (by omega) z)
    · exact z
    · exact absurd h.symm (pw _ _ (by omega) (by omega) z)
  have d1 : (i * n + j) / n = i := by rw [Nat.mul_comm, Nat.mul_add_div (by omega), Nat.div_eq_of_lt hj]; rfl
  have d2 : (i' * n + j') / n = i' := by rw [Nat.mul_comm, Nat.mul_add_div (by omega), Nat.div_eq_of_lt hj']; rfl
  have ei : i = i' := by rw [← d1, ← d2, e]
  subst ei
  exact ⟨rfl, by omega⟩
def srtI (r : List Int) : List Int := r.mergeSort fun a b => decide (a ≤ b)
theorem srtI_perm (r : List Int) : (srtI r).Perm r := List.mergeSort_perm _ _
theorem srtI_len (r : List Int) : (srtI r).length = r.length := (srtI_perm r).length_eq
theorem srtI_up (r : List Int) : (srtI r).Pairwise (· ≤ ·) := (List.pairwise_mergeSort (le := fun a b : Int => decide (a ≤ b)) (fun a b c h1 h2 => decide_eq_true (Int.le_trans (of_decide_eq_true h1) (of_decide_eq_true h2))) (fun a b => by
  simp only [Bool.or_eq_true, decide_eq_true_eq]
  omega) r).imp fun {a b} (h : decide (a ≤ b) = true) => of_decide_eq_true h
theorem srtI_eq {r L : List Int} (hp : L.Perm r) (hs : L.Pairwise (· ≤ ·)) : L = srtI r :=
  sort_uniq (fun a b h1 h2 => Int.le_antisymm h1 h2) (hp.trans (srtI_perm r).symm) hs (srtI_up r)
def lotsOf (m n : Nat) (L : List Int) : Tab := (layN m n L).map srtI
/-- what is asked of the rows -/
structure Lots (lots : Tab) (m n : Nat) : Prop where
  t : IsTab lots n
  l : lots.length = m
  up : ∀ i j j', i < m → j < j' → j' < n → val lots i j < val lots i j'
  ne : ∀ i j i' j', i < m → j < n → i' < m → j' < n → i ≠ i' → val lots i j ≠ val lots i' j'
theorem lots_is {m n : Nat} {L : List Int} (m0 : 0 < m) (m8 : m ≤ 8) (n0 : 0 < n) (n8 : n ≤ 8) (nd : L.Nodup) (hl : L.length = m * n) : Lots (lotsOf m n L) m n := by
  have ll : (lotsOf m n L).length = m := by simp [lotsOf, layN]
  have rl : ∀ i, i < m → ((L.drop (i * n)).take n).length = n := fun i hi => by
    rw [List.length_take, List.length_drop, hl]
    have : (i + 1) * n ≤ m * n := Nat.mul_le_mul_right n hi
    rw [Nat.succ_mul] at this
    omega
  have row : ∀ i, i < m → (lotsOf m n L).getD i [] = srtI ((L.drop (i * n)).take n) := fun i hi => by
    unfold lotsOf layN
    rw [List.map_map, List.getD_eq_getElem?_getD, List.getElem?_map, List.getElem?_range hi]
    rfl
  have inv : ∀ i j, i < m → j < n → ∃ j', j' < n ∧ val (lotsOf m n L) i j = val (layN m n L) i j' := fun i j hi hj => by
    have hm : (srtI ((L.drop (i * n)).take n))[j]'(by rw [srtI_len, rl i hi]; exact hj) ∈ (L.drop (i * n)).take n := (srtI_perm _).subset (List.getElem_mem _)
    obtain ⟨j', hj', e⟩ := List.mem_iff_getElem.mp hm
    rw [rl i hi] at hj'
    refine ⟨j', hj', ?_⟩
    unfold val
    rw [row i hi]
    have er : (layN m n L).getD i [] = (L.drop (i * n)).take n := by
      unfold layN
      rw [List.getD_eq_getElem?_getD, List.getElem?_map, List.getElem?_range hi]
      rfl
    rw [er, G.getD_at (by rw [srtI_len, rl i hi]; exact hj), G.getD_at (by rw [rl i hi]; exact hj'), e]
  refine ⟨⟨by rw [ll]; exact m0, by rw [ll]; exact m8, n0, n8, fun r hr => ?_⟩, ll, fun i j j' hi hj hj' => ?_, fun i j i' j' hi hj hi' hj' ne e => ?_⟩
  · obtain ⟨r0, hr0, e⟩ := List.mem_map.mp hr
    obtain ⟨i, hi, e0⟩ := List.mem_map.mp hr0
    rw [← e, srtI_len, ← e0]
    exact rl i (List.mem_range.mp hi)
  · have le : val (lotsOf m n L) i j ≤ val (lotsOf m n L) i j' := by
      unfold val
      rw [row i hi, G.getD_at (by rw [srtI_len, rl i hi]; omega), G.getD_at (by rw [srtI_len, rl i hi]; omega)]
      exact List.pairwise_iff_getElem.mp (srtI_up _) j j' _ _ hj
    have ne : val (lotsOf m n L) i j ≠ val (lotsOf m n L) i j' := by
      unfold val
      rw [row i hi, G.getD_at (by rw [srtI_len, rl i hi]; omega), G.getD_at (by rw [srtI_len, rl i hi]; omega)]
      have nd2 : (srtI ((L.drop (i * n)).take n)).Nodup := (srtI_perm _).nodup_iff.mpr ((nd.sublist (List.drop_sublist _ _)).sublist (List.take_sublist _ _))
      exact List.pairwise_iff_getElem.mp nd2 j j' _ _ hj
    omega
  · obtain ⟨a, ha, ea⟩ := inv i j hi hj
    obtain ⟨c, hc, ec⟩ := inv i' j' hi' hj'
    rw [ea, ec] at e
    exact ne (layN_nodup nd hl hi ha hi' hc e).1
theorem lots_rows {lots : Tab} {m n x y : Nat} (h : Lots lots m n) (hx : x < m) (hy : y < n) : RowsUp lots n x y :=
  ⟨by rw [h.l]; exact hx, hy, fun i j j' hi hj hj' => h.up i j j' (by rw [← h.l]; exact hi) hj hj', fun i j hi hj => h.ne i j x y (by omega) hj hx hy (by omega)⟩
theorem lots_cols {lots : Tab} {m n x y : Nat} (h : Lots lots m n) (hx : x < n) (hy : y < m) : ColsUp (turn lots n) m x y := by
  have tl := turn_len lots n
  have tv : ∀ i j, i < n → j < m → val (turn lots n) i j = val lots j i := fun i j hi hj => turn_val (by rw [h.l]; exact hj) hi
  refine ⟨by rw [tl]; exact hx, hy, fun i i' j hi hi' hj => ?_, fun i j hi hj hj' => ?_⟩
  · rw [tl] at hi'
    rw [tv i j (by omega) hj, tv i' j hi' hj]
    exact h.up j i i' hj hi hi'
  · rw [tl] at hi
    rw [tv i j hi hj', tv x y hx hy]
    exact h.ne j i y x hj' hi hy hx (by omega)
end G

namespace K04
open PySem PySem.Spec PyProof.Rows L2 G
abbrev sUnl : Stmt := topS 32
abbrev sRt : Stmt := topS 33
theorem cube_inj : ∀ a b : Fin 64, ((a.val : Int) - 11) ^ (3 : Int).toNat = ((b.val : Int) - 11) ^ (3 : Int).toNat → a = b := by decide +kernel
theorem rgI_nodup (s : Nat) : (rgI s).Nodup := List.pairwise_map.mpr (List.nodup_range.imp fun {a b} h e => h (by exact Int.ofNat.inj e))
theorem layN_is {m n : Nat} {L : List Int} (m0 : 0 < m) (m8 : m ≤ 8) (n0 : 0 < n) (n8 : n ≤ 8) (hL : L.length = m * n) : IsTab (layN m n L) n := ⟨by simp [layN, m0], by simp [layN, m8], n0, n8, fun r hr => by
  obtain ⟨i, hi, e⟩ := List.mem_map.mp hr
  have hi := List.mem_range.mp hi
  rw [← e, List.length_take, List.length_drop, hL]
  have : (i + 1) * n ≤ m * n := Nat.mul_le_mul_right n hi
  rw [Nat.succ_mul] at this
  omega⟩
section
variable {P : Program} {w : World} {K : PySem.W.Frag} {mg : Str → Option Value} {base : Heap} {f : Addr} {fd : FuncData} {k : Nat}
abbrev NUnl : List Str := ["_law_draws_here", "_law_many", "_law_wide", "_law_some", "_law_value", "_law_row"]
theorem scUnl : FnScope NUnl ["_law_draws_here"] (defScope sUnl) := ⟨rfl, rfl, rfl, by decide +kernel, rfl, by decide +kernel, by decide +kernel⟩
def SUnl : GSpec := fun rs M Kk => ∃ (D : Addr) (xs : List SD) (N : Nat), rs = [.rf (.ref D)] ∧ M = [(D, .lst xs)] ∧ DrAt N xs ∧ N ≤ 800000 ∧
  ∀ m n (L : List Int) ys, 0 < m → m ≤ 8 → 0 < n → n ≤ 8 → L.Nodup → L.length = m * n → DrAt (N + 67) ys → Kk (.pu (tab (layN m n L))) [(D, .lst ys)]
theorem fUnl (F : Fun K "_law_unlike" "_law_unlike" sUnl f fd) (b : Bl mg) (CN : Cal P w K mg base k "_law_next" sNext ["_law_draws_here"] SNext) (CO : Cal P w K mg base k "_law_order" sOrder ["_law_draws_here", "_law_size"] SOrder) : FnG P w K mg base (k + 1) f fd ["_law_draws_here"] SUnl := by
  refine fnG F scUnl (fun rs M Kk ⟨_, _, _, e, _⟩ => by rw [e]; rfl) fun cdv A outer s0 H hgd hr rs M Kk hS => ?_
  obtain ⟨D, xs, N, rfl, rfl, dr, hN, q⟩ := hS
  refine bcons (sset 1 scUnl.nd (gadd (gi ⟨1, rfl, gmod (gint b.int (gnext CN hgd hr rfl rfl (by first | exact .inl rfl | exact .inr (.inl rfl) | exact .inr (.inr rfl)) dr (by omega) fun r1 y1 h1 d1 => ⟨(r1 : Int), rfl, (r1 : Int), rfl, gi ⟨8, rfl, by decide, _, rfl, ?_⟩⟩))⟩)) (hx := by first | exact .inl rfl | exact .inr rfl))
  obtain ⟨m, em, m0, m8⟩ : ∃ m : Nat, (1 : Int) + (r1 : Int) % 8 = (m : Int) ∧ 0 < m ∧ m ≤ 8 := ⟨1 + r1 % 8, by omega, by omega, by omega⟩
  dsimp only
  rw [em]
  refine bcons (sset 2 scUnl.nd (gadd (gi ⟨1, rfl, gmod (gint b.int (gnext CN hgd hr rfl rfl (by first | exact .inl rfl | exact .inr (.inl rfl) | exact .inr (.inr rfl)) d1 (by omega) fun r2 y2 h2 d2 => ⟨(r2 : Int), rfl, (r2 : Int), rfl, gi ⟨8, rfl, by decide, _, rfl, ?_⟩⟩))⟩)) (hx := by first | exact .inl rfl | exact .inr rfl))
  obtain ⟨n, en, n0, n8⟩ : ∃ n : Nat, (1 : Int) + (r2 : Int) % 8 = (n : Int) ∧ 0 < n ∧ n ≤ 8 := ⟨1 + r2 % 8, by omega, by omega, by omega⟩
  dsimp only
  rw [en]
  have hmn : m * n ≤ 64 := Nat.mul_le_mul m8 n8
  refine bcons (sset 3 scUnl.nd (gz (gpm (gcal CO hgd hr (acons (gv 0 rfl (acons (gmul (gv 1 rfl ⟨_, rfl, gv 2 rfl ⟨_, rfl, .inl ⟨by omega, by omega⟩, anil ⟨[(D, .lst y2)], [], .refl _, D, y2, _, m * n, ?_, rfl, d2, ?_, ?_, fun l ns y4 hp d4 => ?_⟩⟩⟩)))))))) (hx := by first | exact .inl rfl | exact .inr rfl))
  · rw [Int.natCast_mul]
  · omega
  · omega
  refine ⟨[(l, .lst (pints ns)), (D, .lst y4)], List.Perm.swap .., l, ns.map .int, [(D, .lst y4)], rfl, by rw [pints_pu], ?_⟩
  have hl : ns.length = m * n := by rw [hp.length_eq]; simp
  have nd : ns.Nodup := hp.nodup_iff.mpr (rgI_nodup _)
  have hv : ∀ v ∈ ns, ∃ a : Fin 64, v = (a.val : Int) := fun v hv => by
    obtain ⟨i, hi, e⟩ := List.mem_map.mp (hp.subset hv)
    have := List.mem_range.mp hi
    exact ⟨⟨i, by omega⟩, e.symm⟩
  refine bseq (fun ρ' M' => ∃ L ys, ρ' = [.rf (.ref D), .pu (.int (m : Int)), .pu (.int (n : Int)), .pu (rowD L), .un, .un] ∧ M' = [(D, .lst ys)] ∧ L.Nodup ∧ L.length = m * n ∧ DrAt (N + 67) ys) ?_ fun ρ' M' h => ?_
  · refine sif (teqI (gmod (gint b.int (gnext CN hgd hr rfl rfl (by first | exact .inl rfl | exact .inr (.inl rfl) | exact .inr (.inr rfl)) d4 (by omega) fun r y5 h5 d5 => ⟨(r : Int), rfl, (r : Int), rfl, gi ⟨2, rfl, by decide, _, rfl, gi ⟨1, rfl, iteB (fun _ => bone ?_) fun _ => bnil ⟨ns, y5, rfl, rfl, nd, hl, d5.mono (by omega)⟩⟩⟩⟩))))
    refine sset 3 scUnl.nd (gz (glc (.name 4) (own := [("_law_value", 4)]) rfl scUnl.nd (blkOk_by (N := NUnl) (sc := defScope sUnl) (by decide +kernel)) (fun _ _ _ _ _ => pg_name (i := 4) scUnl.nd rfl (Or.inl rfl)) (by decide) (iglist (gv 3 rfl ⟨ns.map .int, rfl, ?_⟩)))) (hx := by first | exact .inl rfl | exact .inr rfl)
    refine lc_ints (L := ns) (fun v => (v - 11) ^ (3 : Int).toNat) (by omega) (fun v hm => ?_) fun l2 => ?_
    · obtain ⟨x, rfl⟩ := hv v hm
      rintro Y ⟨s', H', C, cl, fp, rfl⟩
      exact gpow (gsub (gv 4 rfl ⟨_, rfl, gi ⟨11, rfl, _, rfl, gi ⟨3, rfl, ⟨by decide, by decide, by have := x.isLt; omega⟩, rfl, rfl⟩⟩⟩))
    · refine ⟨l2, _, _, rfl, rfl, _, y5, rfl, rfl, ?_, by rw [List.length_map]; exact hl, d5.mono (by omega)⟩
      refine List.pairwise_map.mpr (List.Pairwise.imp_of_mem (fun {u v} hu hv2 huv e => huv ?_) nd)
      obtain ⟨x, rfl⟩ := hv u hu
      obtain ⟨z, rfl⟩ := hv v hv2
      rw [cube_inj x z e]
  obtain ⟨L, ys, rfl, rfl, ndL, lL, hd⟩ := h
  refine bone (sret (gz (glc (.name 5) (own := [("_law_row", 5)]) rfl scUnl.nd (blkOk_by (N := NUnl) (sc := defScope sUnl) (by decide +kernel)) (fun _ _ _ _ _ => pg_name (i := 5) scUnl.nd rfl (Or.inl rfl)) (by decide) (igr1 b.range (gv 1 rfl ⟨(m : Int), rfl, by omega, by omega, ?_⟩)))))
  rw [Int.toNat_natCast]
  refine lc_map (fun x => .pu (rowD ((L.drop (x * n)).take n))) (by omega) (fun x hx => ?_) fun l3 => ⟨l3, (layN m n L).map rowD, _, rfl, ?_, q m n L ys m0 m8 n0 n8 ndL lL hd⟩
  · refine ⟨_, rfl, ?_⟩
    rintro Y ⟨s', H', C, cl, fp, rfl⟩
    have hin : x * n + n ≤ L.length := by
      have : (x + 1) * n ≤ m * n := Nat.mul_le_mul_right n hx
      rw [Nat.succ_mul] at this
      omega
    refine gz (gsl (gv 3 rfl (show GO _ _ _ _ (some _) from gmul (gv 5 rfl ⟨_, rfl, gv 2 rfl ⟨_, rfl, .inl ⟨by omega, by omega⟩, _, rfl, ?_⟩⟩))))
    refine (show GO _ _ _ _ (some _) from gadd (gmul (gv 5 rfl ⟨_, rfl, gv 2 rfl ⟨_, rfl, .inl ⟨by omega, by omega⟩, _, rfl, gv 2 rfl ⟨_, rfl, _, rfl, pints L, ?_, fun l2 => ⟨l2, ((L.drop (x * n)).take n).map .int, _, rfl, ?_, rfl, rfl⟩⟩⟩⟩)))
    · rw [pints_pu']
      exact .pu
    · have e1 : (x : Int) * (n : Int) = ((x * n : Nat) : Int) := by rw [Int.natCast_mul]
      have e2 : (x : Int) * (n : Int) + (n : Int) = ((x * n + n : Nat) : Int) := by rw [Int.natCast_add, Int.natCast_mul]
      rw [e2, e1, cutL_nat (by omega) (by rw [pints_len']; exact hin), Nat.add_sub_cancel_left, pints_cut, pints_pu']
  · unfold layN
    rw [List.map_map, List.map_map]
    rfl
abbrev NRt : List Str := ["_law_draws_here", "_law_most", "_law_net", "_law_row"]
theorem scRt : FnScope NRt ["_law_draws_here"] (defScope sRt) := ⟨rfl, rfl, rfl, by decide +kernel, rfl, by decide +kernel, by decide +kernel⟩
def SRt : GSpec := fun rs M Kk => ∃ (D : Addr) (xs : List SD) (N : Nat), rs = [.rf (.ref D)] ∧ M = [(D, .lst xs)] ∧ DrAt N xs ∧ N ≤ 700000 ∧ ∀ ys M', DrAt (N + 750) ys → Hld [(D, .lst ys)] M' → Kk (.pu (.bool true)) M'
theorem fRt (F : Fun K "_law_right" "_law_right" sRt f fd) (b : Bl mg) (CT : Cal P w K mg base k "_law_table" sTable ["_law_draws_here", "_law_most"] STable) (CW : Cal P w K mg base k "_law_whole_right" sWR ["_law_net"] SWR) (CU : Cal P w K mg base k "_law_unlike" sUnl ["_law_draws_here"] SUnl)
    (CR : Cal P w K mg base k "_law_rows_right" sRws ["_law_net"] SRws) (CL : Cal P w K mg base k "_law_turned" sLTurned ["_law_net"] STurned) (CC : Cal P w K mg base k "_law_columns_right" sCls ["_law_net"] SCls) : FnG P w K mg base (k + 1) f fd ["_law_draws_here"] SRt := by
  refine fnG F scRt (fun rs M Kk ⟨_, _, _, e, _⟩ => by rw [e]; rfl) fun cdv A outer s0 H hgd hr rs M Kk hS => ?_
  obtain ⟨D, xs, N, rfl, rfl, dr, hN, q⟩ := hS
  refine bseq (fun ρ' M' => ∃ z1 ys, ρ' = [.rf (.ref D), z1, .un, .un] ∧ M' = [(D, .lst ys)] ∧ DrAt (N + 600) ys) (sfor PassesOwn.never rfl (iglist (gz (glst (acons (gi (acons (gi (acons (gi (anil ⟨le3, fun l4 => ⟨l4, [.int 8, .int 4, .int 3], _, rfl, rfl, _, rfl, ?_⟩⟩))))))))))) fun ρ' M' h => ?_
  · refine ⟨fun j ρ' M' => ∃ z1 ys, ρ' = [.rf (.ref D), z1, .un, .un] ∧ M' = [(D, .lst ys)] ∧ DrAt (N + 200 * j) ys, ⟨_, _, rfl, rfl, dr⟩, fun j ρ' M' hj h => ?_, fun ρ' M' ⟨z1, ys, e1, e2, h⟩ => ⟨z1, ys, e1, e2, h⟩⟩
    obtain ⟨z1, ys, rfl, rfl, hy⟩ := h
    have hj3 : j < 3 := hj
    obtain ⟨most, em, hm0, hm8⟩ : ∃ most : Nat, nth [PyData.int 8, .int 4, .int 3] j = .pu (.int (most : Int)) ∧ 0 < most ∧ most ≤ 8 := by
      obtain rfl | rfl | rfl : j = 0 ∨ j = 1 ∨ j = 2 := by omega
      · exact ⟨8, rfl, by decide, by decide⟩
      · exact ⟨4, rfl, by decide, by decide⟩
      · exact ⟨3, rfl, by decide, by decide⟩
    rw [em]
    refine tgname 1 ?_ scRt.nd
    refine bone (sif (tnot (tval (gcalD wr_mono CW hgd hr (acons (gcal CT hgd hr (acons (gv 0 rfl (acons (gv 1 rfl (anil ⟨[(D, .lst ys)], [], .refl _, D, ys, _, most, rfl, rfl, hy, by omega, hm0, hm8, fun T n zs t vb hz => ?_⟩)))))))))))
    exact anil ⟨T, n, t, rfl, rfl, fun _ => ⟨true, rfl, iteN rfl (bnil ⟨_, zs, rfl, rfl, hz.mono (by omega)⟩)⟩⟩
  obtain ⟨z1, y1, rfl, rfl, d1⟩ := h
  refine bcons (ssetlc 2 (.name 3) (own := [("_law_row", 3)]) rfl scRt.nd rfl rfl (sw_true rfl rfl rfl (by decide +kernel)) (blkOk_by (N := NRt) (sc := defScope sRt) (by decide +kernel)) (fun _ _ _ _ _ => pg_name (i := 3) scRt.nd rfl (by first | exact .inl rfl | exact .inr rfl)) (by decide) (iglist (gcal CU hgd hr (acons (gv 0 rfl (anil ⟨[(D, .lst y1)], [], .refl _, D, y1, _, rfl, rfl, d1, by omega, fun m n L y3 m0 m8 n0 n8 nd hl d3 => ⟨(layN m n L).map rowD, rfl, ?_⟩⟩))))))
  rw [List.length_map]
  have ll : (layN m n L).length = m := by simp [layN]
  refine lc_map (fun x => .pu (rowD (srtI ((layN m n L).getD x [])))) (by omega) (fun x hx => ?_) fun l => ?_
  · rw [nth_map rowD [] hx]
    refine ⟨_, rfl, ?_⟩
    rintro Y ⟨s', H', C, cl, fp, rfl⟩
    refine gz (gsorted b.sorted (gv 3 rfl ⟨(layN m n L).getD x [], by rw [pints_pu']; exact .pu, fun l5 L' hp hs => ⟨l5, L'.map .int, _, rfl, by rw [pints_pu'], ?_, rfl⟩⟩))
    rw [srtI_eq hp hs]
  have e1 : ((List.range (layN m n L).length).map fun x => SD.pu (rowD (srtI ((layN m n L).getD x [])))) = ((lotsOf m n L).map rowD).map SD.pu := by
    rw [range_map (layN m n L) [] (fun r => SD.pu (rowD (srtI r)))]
    unfold lotsOf
    rw [List.map_map, List.map_map]
    rfl
  rw [e1]
  refine gbz 2 rfl ?_
  have lots := lots_is m0 m8 n0 n8 nd hl
  generalize lotsOf m n L = lot at lots
  refine bcons (sif (tor (tnot (tval (gcalD rws_mono CR hgd hr (acons (gv 2 rfl (anil ⟨lot, n, lots.t, fun x y hx hy => lots_rows lots (by rw [← lots.l]; exact hx) hy, rfl, rfl, fun _ => ⟨true, rfl, iteN rfl ?_⟩⟩))))))))
  refine tnot (tval (gcalD wr_mono CW hgd hr (acons (gv 2 rfl (anil ⟨lot, n, lots.t, rfl, rfl, fun _ => ⟨true, rfl, iteN rfl (bnil ?_)⟩⟩)))))
  refine bcons (sset 2 scRt.nd (gcalD turned_mono CL hgd hr (acons (gz (glc (.name 3) (own := [("_law_row", 3)]) rfl scRt.nd (blkOk_by (N := NRt) (sc := defScope sRt) (by decide +kernel)) (fun _ _ _ _ _ => pg_name (i := 3) scRt.nd rfl (by first | exact .inl rfl | exact .inr rfl)) (by decide) (iglist (gcal CU hgd hr (acons (gv 0 rfl (anil ⟨[(D, .lst y3)], [], .refl _, D, y3, _, rfl, rfl, d3, by omega, fun m2 n2 L2 y5 m20 m28 n20 n28 nd2 hl2 d5 => ⟨(layN m2 n2 L2).map rowD, rfl, ?_⟩⟩))))))))) (hx := by first | exact .inl rfl | exact .inr rfl))
  rw [List.length_map]
  have ll2 : (layN m2 n2 L2).length = m2 := by simp [layN]
  have lots2 := lots_is m20 m28 n20 n28 nd2 hl2
  refine lc_map (fun x => .pu (rowD (srtI ((layN m2 n2 L2).getD x [])))) (by omega) (fun x hx => ?_) fun l => ⟨l, (lotsOf m2 n2 L2).map rowD, [(D, .lst y5)], rfl, ?_, anil ⟨lotsOf m2 n2 L2, n2, lots2.t, rfl, rfl, fun _ => ?_⟩⟩
  · rw [nth_map rowD [] hx]
    refine ⟨_, rfl, ?_⟩
    rintro Y ⟨s', H', C, cl, fp, rfl⟩
    refine gz (gsorted b.sorted (gv 3 rfl ⟨(layN m2 n2 L2).getD x [], by rw [pints_pu']; exact .pu, fun l5 L' hp hs => ⟨l5, L'.map .int, _, rfl, by rw [pints_pu'], ?_, rfl⟩⟩))
    rw [srtI_eq hp hs]
  · rw [range_map (layN m2 n2 L2) [] (fun r => SD.pu (rowD (srtI r)))]
    unfold lotsOf
    rw [List.map_map, List.map_map]
    rfl
  generalize lotsOf m2 n2 L2 = lot2 at lots2
  have t2 : IsTab (turn lot2 n2) m2 := by
    have z := turn_is lots2.t
    rwa [lots2.l] at z
  refine bone (sret (gand (gcalD cls_mono CC hgd hr (acons (gv 2 rfl (anil ⟨turn lot2 n2, m2, t2, fun x y hx hy => lots_cols lots2 (by rwa [turn_len] at hx) hy, rfl, rfl, fun _ => ⟨true, rfl, iteT ?_⟩⟩))))))
  exact gcalD wr_mono CW hgd hr (acons (gv 2 rfl (anil ⟨turn lot2 n2, m2, t2, rfl, rfl, fun _ => q y5 _ (d5.mono (by omega)) (hld_refl _)⟩)))
end
end K04

namespace K04
open PySem PySem.Spec PyProof.Rows L2 G
abbrev sLaw : Stmt := topS 35
/-! ### all orders of six values -/
def net3 (o : List Int) : Tab := [o.take 3, o.drop 3]
theorem ords6 : ((ords 6 6).filter fun o => riseB (net3 o) 3).length = 5 := by decide +kernel
theorem ords_len : ∀ o ∈ ords 6 6, o.length = 6 := by
  have h : (ords 6 6).all (fun o => decide (o.length = 6)) = true := by decide +kernel
  exact fun o ho => of_decide_eq_true (List.all_eq_true.mp h o ho)
theorem ords_720 : (ords 6 6).length = 720 := by decide +kernel
theorem net3_is {o : List Int} (h : o.length = 6) : IsTab (net3 o) 3 := ⟨(by decide : 0 < 2), (by decide : 2 ≤ 8), by decide, by decide, fun x hx => by
  rcases List.mem_cons.mp hx with e | hx
  · rw [e, List.length_take, h]; rfl
  · rw [List.mem_singleton.mp hx, List.length_drop, h]⟩
/-- a row, a table, of what is told by expressions: frozen at once -/
theorem grow {X : Cx} {ρ : List SD} {M : Mem} {Q : Kn} {es : List Expr} {pos : Pos} (h : GA X ρ M es fun rs M1 => ∃ r : List Int, rs = pints r ∧ r.length ≤ 100000 ∧ Q (.pu (rowD r)) M1) : GE X ρ M (.List es pos) Q := gz (glst (.mk fun B F H σ Q' W S s => h B F H σ Q' W S fun rs M1 vs F1 H1 ⟨r, e, hl, q⟩ W1 s1 vx => s rs M1 vs F1 H1 ⟨by rw [e, List.length_map]; exact hl, fun l => ⟨l, r.map .int, M1, rfl, by rw [e, ← pints_pu], q⟩⟩ W1 s1 vx))
theorem gtab {X : Cx} {ρ : List SD} {M : Mem} {Q : Kn} {es : List Expr} {pos : Pos} (h : GA X ρ M es fun rs M1 => ∃ T : Tab, rs = (T.map rowD).map SD.pu ∧ T.length ≤ 100000 ∧ Q (.pu (tab T)) M1) : GE X ρ M (.List es pos) Q := gz (glst (.mk fun B F H σ Q' W S s => h B F H σ Q' W S fun rs M1 vs F1 H1 ⟨T, e, hl, q⟩ W1 s1 vx => s rs M1 vs F1 H1 ⟨by rw [e, List.length_map, List.length_map]; exact hl, fun l => ⟨l, T.map rowD, M1, rfl, by rw [e], q⟩⟩ W1 s1 vx))
theorem is_tab {T : Tab} {n : Nat} (h : (decide (0 < T.length ∧ T.length ≤ 8 ∧ 0 < n ∧ n ≤ 8) && T.all (fun r => decide (r.length = n))) = true) : IsTab T n := by
  rw [Bool.and_eq_true] at h
  obtain ⟨a, b, c, d⟩ := of_decide_eq_true h.1
  exact ⟨a, b, c, d, fun r hr => of_decide_eq_true (List.all_eq_true.mp h.2 r hr)⟩
abbrev p20 : Int := 10 ^ (20 : Int).toNat
section
variable {P : Program} {w : World} {K : PySem.W.Frag} {mg : Str → Option Value} {base : Heap} {f : Addr} {fd : FuncData} {k : Nat}
abbrev NLaw : List Str := ["_law_script", "_law_came", "_law_row", "_law_net", "_law_draws_here", "_law_cell"]
theorem scLaw : FnScope NLaw ["_law_script"] (defScope sLaw) := ⟨rfl, rfl, rfl, by decide +kernel, rfl, by decide +kernel, by decide +kernel⟩
theorem fLaw (F : Fun K "law" "law" sLaw f fd) (b : Bl mg) (CO : Cal P w K mg base k "_law_orders" sOrds ["_law_size"] SOrds) (CW : Cal P w K mg base k "_law_whole_right" sWR ["_law_net"] SWR) (CR : Cal P w K mg base k "_law_rises" sRis ["_law_net"] SRis) (CD : Cal P w K mg base k "_law_draws" sDraws ["_law_cell"] SDraws)
    (CC : Cal P w K mg base k "_law_right" sRt ["_law_draws_here"] SRt) (CA : Cal P w K mg base k "all_found" sAll ["table"] SAll) : FnG P w K mg base (k + 1) f fd ["_law_script"] (LawS K 63) := by
  refine fnG F scLaw (fun rs M Kk ⟨a, ns, e, _⟩ => by rw [e]; rfl) fun cdv A outer s0 H hgd hr rs M Kk hS => ?_
  obtain ⟨a, ns, rfl, hsc, hl, _, _, q⟩ := hS
  refine bcons (sset 1 scLaw.nd (gi ?_))
  refine bseq (fun ρ' M' => ∃ z2 z3, ρ' = [.rf (.ref a), .pu (.int 5), z2, z3, .un, .un] ∧ M' = M) (sfor PassesOwn.never rfl (iglist (gcalD ords_mono CO hgd hr (acons (gi (anil ⟨6, by decide, rfl, rfl, fun _ => ⟨(ords 6 6).map rowD, rfl, ?_⟩⟩)))))) fun ρ' M' h => ?_
  · rw [List.length_map]
    refine ⟨fun i ρ' M' => ∃ z2 z3, ρ' = [.rf (.ref a), .pu (.int ((((ords 6 6).take i).filter fun o => riseB (net3 o) 3).length : Nat)), z2, z3, .un, .un] ∧ M' = M, ⟨_, _, rfl, rfl⟩, fun i ρ' M' hi h => ?_, fun ρ' M' h => ?_⟩
    · obtain ⟨z2, z3, rfl, rfl⟩ := h
      have hi : i < (ords 6 6).length := hi
      have hl6 := ords_len _ (List.getElem_mem hi)
      have et : (ords 6 6).take (i + 1) = (ords 6 6).take i ++ [(ords 6 6)[i]] := by rw [List.take_add_one, List.getElem?_eq_getElem hi]; rfl
      have i720 : i < 720 := by rw [← ords_720]; exact hi
      have cl : (((ords 6 6).take i).filter fun o => riseB (net3 o) 3).length ≤ 720 := Nat.le_trans (List.length_filter_le _ _) (by rw [List.length_take]; omega)
      rw [nth_map rowD [] hi, G.getD_at hi]
      have ec : (((ords 6 6).take (i + 1)).filter fun o => riseB (net3 o) 3).length = (((ords 6 6).take i).filter fun o => riseB (net3 o) 3).length + if riseB (net3 (ords 6 6)[i]) 3 = true then 1 else 0 := by
        rw [et, List.filter_append, List.length_append, List.filter_cons]
        congr 1
        cases h : riseB (net3 (ords 6 6)[i]) 3 <;> simp
      generalize (ords 6 6)[i] = o at hl6 ec
      refine tgname 2 ?_ scLaw.nd
      refine bcons (sset 3 scLaw.nd (gtab (acons (gz (gsl (gv 2 rfl ?_))))))
      change GE _ _ _ _ _
      refine gi ⟨3, rfl, _, .pu, fun l2 => ⟨l2, (o.take 3).map .int, M', rfl, ?_, ?_⟩⟩
      · rw [show (3 : Int) = ((3 : Nat) : Int) from rfl, cutL_to, ← List.map_take, ← List.map_take]
      refine acons (gz (gsl (gv 2 rfl ?_)))
      refine (show GO _ _ _ _ (some _) from gi ⟨3, rfl, ?_⟩)
      refine (show GO _ _ _ _ none from ⟨_, .pu, fun l3 => ⟨l3, (o.drop 3).map .int, M', rfl, ?_, anil ⟨net3 o, rfl, (by decide : 2 ≤ 100000), ?_⟩⟩⟩)
      · rw [show (3 : Int) = ((3 : Nat) : Int) from rfl, cutL_from, List.map_drop, List.map_drop]
      refine bcons (sif (tnot (tval (gcalD wr_mono CW hgd hr (acons (gv 3 rfl (anil ⟨net3 o, 3, net3_is hl6, rfl, rfl, fun _ => ⟨true, rfl, iteN rfl (bnil ?_)⟩⟩)))))))
      refine bone (sset 1 scLaw.nd (gadd (gv 1 rfl ⟨_, rfl, gintb b.int (gcalD ris_mono CR hgd hr (acons (gv 3 rfl (anil ⟨net3 o, 3, net3_is hl6, rfl, rfl, fun _ => ⟨_, rfl, _, rfl, ?_⟩⟩))))⟩)))
      refine ⟨.pu (rowD o), .pu (tab (net3 o)), ?_, rfl⟩
      rw [ec, Int.natCast_add]
      cases riseB (net3 o) 3 <;> rfl
    · obtain ⟨z2, z3, e1, e2⟩ := h
      rw [List.take_length, ords6] at e1
      exact ⟨z2, z3, e1, e2⟩
  obtain ⟨z2, z3, rfl, rfl⟩ := h
  refine bseq (fun ρ' M' => ∃ z2 z3 z4 z5, ρ' = [.rf (.ref a), .pu (.int 5), z2, z3, z4, z5]) ?_ fun ρ' M' h => ?_
  · refine sdraws DrAt 4 5 6 750 (fun ρ' => ∃ z2 z3 z4 z5, ρ' = [.rf (.ref a), .pu (.int 5), z2, z3, z4, z5]) rfl scLaw.nd PassesOwn.never (fun _ _ _ h => h.mono) rfl (by decide) rfl (.inl rfl) (.inl rfl) rfl hsc rfl (.inl rfl) (blkOk_by (N := NLaw) (sc := defScope sLaw) (by decide +kernel)) (fun _ _ _ _ _ => pg_name (i := 5) scLaw.nd rfl (Or.inl rfl)) (show 5 < 6 by decide) ?_ ⟨_, _, _, _, rfl⟩ ?_ fun _ _ h => h
    · rintro z ρ2 h2 Y ⟨s', H', C, cl, fp, rfl⟩ M1 Q1 hq
      exact gcalP CD hgd hr (acons (gv 5 h2 (anil ⟨_, rfl, rfl, fun l xs hx => hq l xs hx⟩)))
    · rintro D' ys N ρ' ⟨z2, z3, z4, z5, rfl⟩ hN hd
      refine bone (sif (tnot (tval (gcal CC hgd hr (acons (gv 4 rfl (anil ⟨[(D', .lst ys)], [], .refl _, D', ys, _, rfl, rfl, hd, by omega, fun ys2 M2 hd2 hold2 => ⟨true, rfl, iteN rfl (bnil ⟨⟨_, _, _, _, rfl⟩, ys2, hd2, ?_⟩)⟩⟩)))))))
      rw [List.append_nil]
      exact hold2
  obtain ⟨z2, z3, z4, z5, rfl⟩ := h
  have tA : IsTab [[1, 2, 9], [3, 4, 10], [9, 11, 12]] 3 := is_tab (by decide)
  have tB : IsTab [[1, 5], [2, 6], [5, 7]] 2 := is_tab (by decide)
  have tC : IsTab [[1, 2, 3], [2, 4, 6], [3, 6, 9]] 3 := is_tab (by decide)
  have tD : IsTab [[1 - p20, 0], [5, p20 - 1]] 2 := is_tab (by decide +kernel)
  have tE : IsTab [[1, 2], [2, 3]] 2 := is_tab (by decide)
  have tF : IsTab [[1, 2], [3, 4]] 2 := is_tab (by decide)
  have pw : CPow 10 20 := ⟨by decide, by decide, by decide⟩
  refine bcons (sif (tor (tval (gcalD all_mono CA hgd hr (acons (glit (tab [[1, 2, 9], [3, 4, 10], [9, 11, 12]]) rfl (anil ⟨_, 3, tA, rfl, rfl, fun _ => ⟨_, rfl, iteN ?_ ?_⟩⟩)))))))
  · rw [all_due tA]
    decide +kernel
  refine tval (gcalD all_mono CA hgd hr (acons (glit (tab [[1, 5], [2, 6], [5, 7]]) rfl (anil ⟨_, 2, tB, rfl, rfl, fun _ => ⟨_, rfl, iteN ?_ (bnil ?_)⟩⟩))))
  · rw [all_due tB]
    decide +kernel
  refine bcons (sif (tor (tval (gcalD all_mono CA hgd hr (acons (glit (tab [[1, 2, 3], [2, 4, 6], [3, 6, 9]]) rfl (anil ⟨_, 3, tC, rfl, rfl, fun _ => ⟨_, rfl, iteN ?_ ?_⟩⟩)))))))
  · rw [all_due tC]
    decide +kernel
  refine tnot (tval (gcalD all_mono CA hgd hr (acons (gtab (acons (grow (acons (gsub (gi ⟨1, rfl, gpow (gi ⟨10, rfl, gi ⟨20, rfl, pw, _, rfl, acons (gi (anil ⟨[1 - p20, 0], rfl, by decide, ?_⟩))⟩⟩)⟩)))))))))
  refine acons (grow (acons (gi (acons (gsub (gpow (gi ⟨10, rfl, gi ⟨20, rfl, pw, _, rfl, gi ⟨1, rfl, anil ⟨[5, p20 - 1], rfl, by decide, anil ⟨[[1 - p20, 0], [5, p20 - 1]], rfl, by decide, anil ⟨_, 2, tD, rfl, rfl, fun _ => ⟨_, rfl, iteN ?_ (bnil ?_)⟩⟩⟩⟩⟩⟩⟩)))))))
  · rw [all_due tD]
    decide +kernel
  refine bone (sret (gandV (geqI (gv 1 rfl ⟨5, rfl, gi ⟨5, rfl, true, rfl, iteT ?_⟩⟩))))
  refine gandV (gnot (gcalD all_mono CA hgd hr (acons (glit (tab [[1, 2], [2, 3]]) rfl (anil ⟨_, 2, tE, rfl, rfl, fun _ => ⟨_, rfl, true, ?_, iteT ?_⟩⟩)))))
  · rw [all_due tE]
    rfl
  refine gone (gcalD all_mono CA hgd hr (acons (glit (tab [[1, 2], [3, 4]]) rfl (anil ⟨_, 2, tF, rfl, rfl, fun _ => ?_⟩))))
  have e : riseB [[1, 2], [3, 4]] 2 = true := by decide +kernel
  rw [all_due tF, e]
  exact q _
end
end K04

namespace K04
open PySem PySem.Spec PyProof.Rows L2 G
/-! ### what the top has written -/
theorem all_mk {l : PySem.W.OpenLaw} {w : World} {K : PySem.W.Frag} {h : Heap} {mg : Str → Option Value} {fa : Addr} {tk : Tok} (X : K.In h) (G : h.Ns mainGlobals mg) (hfa : mg "law" = some (.ref fa))
    (aL : PySem.W.nsIn K mainGlobals "LONGEST" = some (some (.int 8 tk)))
    {f5 : Addr} {od5 an5 : Option Addr} {sl5 : Array (Option Value)} {oc5 kV5 dc5 pm5 cd5 ct5 : Value}
    (a5 : PySem.W.nsIn K mainGlobals "is_whole" = some (some (.ref f5))) (l5 : K.lookup f5 = some ⟨oc5, od5, .func (PySem.W.fnOf "is_whole" "is_whole" (defArgs sWhole) (defBody sWhole) (defScope sWhole) .none kV5 dc5 pm5 an5 cd5 ct5), sl5⟩) (c5 : PySem.W.codeIn K cd5 "is_whole" = true) (k5 : PySem.W.keepIn K (.ref f5) = true)
    {f6 : Addr} {od6 an6 : Option Addr} {sl6 : Array (Option Value)} {oc6 kV6 dc6 pm6 cd6 ct6 : Value}
    (a6 : PySem.W.nsIn K mainGlobals "is_pair" = some (some (.ref f6))) (l6 : K.lookup f6 = some ⟨oc6, od6, .func (PySem.W.fnOf "is_pair" "is_pair" (defArgs sPair) (defBody sPair) (defScope sPair) .none kV6 dc6 pm6 an6 cd6 ct6), sl6⟩) (c6 : PySem.W.codeIn K cd6 "is_pair" = true) (k6 : PySem.W.keepIn K (.ref f6) = true)
    {f9 : Addr} {od9 an9 : Option Addr} {sl9 : Array (Option Value)} {oc9 kV9 dc9 pm9 cd9 ct9 : Value}
    (a9 : PySem.W.nsIn K mainGlobals "_is_list_of_lists" = some (some (.ref f9))) (l9 : K.lookup f9 = some ⟨oc9, od9, .func (PySem.W.fnOf "_is_list_of_lists" "_is_list_of_lists" (defArgs sLoL) (defBody sLoL) (defScope sLoL) .none kV9 dc9 pm9 an9 cd9 ct9), sl9⟩) (c9 : PySem.W.codeIn K cd9 "_is_list_of_lists" = true) (k9 : PySem.W.keepIn K (.ref f9) = true)
    {f10 : Addr} {od10 an10 : Option Addr} {sl10 : Array (Option Value)} {oc10 kV10 dc10 pm10 cd10 ct10 : Value}
    (a10 : PySem.W.nsIn K mainGlobals "_is_row" = some (some (.ref f10))) (l10 : K.lookup f10 = some ⟨oc10, od10, .func (PySem.W.fnOf "_is_row" "_is_row" (defArgs sRow) (defBody sRow) (defScope sRow) .none kV10 dc10 pm10 an10 cd10 ct10), sl10⟩) (c10 : PySem.W.codeIn K cd10 "_is_row" = true) (k10 : PySem.W.keepIn K (.ref f10) = true)
    {f11 : Addr} {od11 an11 : Option Addr} {sl11 : Array (Option Value)} {oc11 kV11 dc11 pm11 cd11 ct11 : Value}
    (a11 : PySem.W.nsIn K mainGlobals "_is_within" = some (some (.ref f11))) (l11 : K.lookup f11 = some ⟨oc11, od11, .func (PySem.W.fnOf "_is_within" "_is_within" (defArgs sWithin) (defBody sWithin) (defScope sWithin) .none kV11 dc11 pm11 an11 cd11 ct11), sl11⟩) (c11 : PySem.W.codeIn K cd11 "_is_within" = true) (k11 : PySem.W.keepIn K (.ref f11) = true)
    {f7 : Addr} {od7 an7 : Option Addr} {sl7 : Array (Option Value)} {oc7 kV7 dc7 pm7 cd7 ct7 : Value}
    (a7 : PySem.W.nsIn K mainGlobals "check_table" = some (some (.ref f7))) (l7 : K.lookup f7 = some ⟨oc7, od7, .func (PySem.W.fnOf "check_table" "check_table" (defArgs sCkTab) (defBody sCkTab) (defScope sCkTab) .none kV7 dc7 pm7 an7 cd7 ct7), sl7⟩) (c7 : PySem.W.codeIn K cd7 "check_table" = true) (k7 : PySem.W.keepIn K (.ref f7) = true)
    {f8 : Addr} {od8 an8 : Option Addr} {sl8 : Array (Option Value)} {oc8 kV8 dc8 pm8 cd8 ct8 : Value}
    (a8 : PySem.W.nsIn K mainGlobals "check_place" = some (some (.ref f8))) (l8 : K.lookup f8 = some ⟨oc8, od8, .func (PySem.W.fnOf "check_place" "check_place" (defArgs sCkPl) (defBody sCkPl) (defScope sCkPl) .none kV8 dc8 pm8 an8 cd8 ct8), sl8⟩) (c8 : PySem.W.codeIn K cd8 "check_place" = true) (k8 : PySem.W.keepIn K (.ref f8) = true)
    {f17 : Addr} {od17 an17 : Option Addr} {sl17 : Array (Option Value)} {oc17 kV17 dc17 pm17 cd17 ct17 : Value}
    (a17 : PySem.W.nsIn K mainGlobals "walk" = some (some (.ref f17))) (l17 : K.lookup f17 = some ⟨oc17, od17, .func (PySem.W.fnOf "walk" "walk" (defArgs sWalk) (defBody sWalk) (defScope sWalk) .none kV17 dc17 pm17 an17 cd17 ct17), sl17⟩) (c17 : PySem.W.codeIn K cd17 "walk" = true) (k17 : PySem.W.keepIn K (.ref f17) = true)
    {f18 : Addr} {od18 an18 : Option Addr} {sl18 : Array (Option Value)} {oc18 kV18 dc18 pm18 cd18 ct18 : Value}
    (a18 : PySem.W.nsIn K mainGlobals "turned" = some (some (.ref f18))) (l18 : K.lookup f18 = some ⟨oc18, od18, .func (PySem.W.fnOf "turned" "turned" (defArgs sTurned) (defBody sTurned) (defScope sTurned) .none kV18 dc18 pm18 an18 cd18 ct18), sl18⟩) (c18 : PySem.W.codeIn K cd18 "turned" = true) (k18 : PySem.W.keepIn K (.ref f18) = true)
    {f13 : Addr} {od13 an13 : Option Addr} {sl13 : Array (Option Value)} {oc13 kV13 dc13 pm13 cd13 ct13 : Value}
    (a13 : PySem.W.nsIn K mainGlobals "is_found" = some (some (.ref f13))) (l13 : K.lookup f13 = some ⟨oc13, od13, .func (PySem.W.fnOf "is_found" "is_found" (defArgs sFound) (defBody sFound) (defScope sFound) .none kV13 dc13 pm13 an13 cd13 ct13), sl13⟩) (c13 : PySem.W.codeIn K cd13 "is_found" = true) (k13 : PySem.W.keepIn K (.ref f13) = true)
    {f19 : Addr} {od19 an19 : Option Addr} {sl19 : Array (Option Value)} {oc19 kV19 dc19 pm19 cd19 ct19 : Value}
    (a19 : PySem.W.nsIn K mainGlobals "_places_found" = some (some (.ref f19))) (l19 : K.lookup f19 = some ⟨oc19, od19, .func (PySem.W.fnOf "_places_found" "_places_found" (defArgs sPF) (defBody sPF) (defScope sPF) .none kV19 dc19 pm19 an19 cd19 ct19), sl19⟩) (c19 : PySem.W.codeIn K cd19 "_places_found" = true) (k19 : PySem.W.keepIn K (.ref f19) = true)
    {f14 : Addr} {od14 an14 : Option Addr} {sl14 : Array (Option Value)} {oc14 kV14 dc14 pm14 cd14 ct14 : Value}
    (a14 : PySem.W.nsIn K mainGlobals "found_places" = some (some (.ref f14))) (l14 : K.lookup f14 = some ⟨oc14, od14, .func (PySem.W.fnOf "found_places" "found_places" (defArgs sPlaces) (defBody sPlaces) (defScope sPlaces) .none kV14 dc14 pm14 an14 cd14 ct14), sl14⟩) (c14 : PySem.W.codeIn K cd14 "found_places" = true) (k14 : PySem.W.keepIn K (.ref f14) = true)
    {f15 : Addr} {od15 an15 : Option Addr} {sl15 : Array (Option Value)} {oc15 kV15 dc15 pm15 cd15 ct15 : Value}
    (a15 : PySem.W.nsIn K mainGlobals "found_from_below" = some (some (.ref f15))) (l15 : K.lookup f15 = some ⟨oc15, od15, .func (PySem.W.fnOf "found_from_below" "found_from_below" (defArgs sBelow) (defBody sBelow) (defScope sBelow) .none kV15 dc15 pm15 an15 cd15 ct15), sl15⟩) (c15 : PySem.W.codeIn K cd15 "found_from_below" = true) (k15 : PySem.W.keepIn K (.ref f15) = true)
    {f16 : Addr} {od16 an16 : Option Addr} {sl16 : Array (Option Value)} {oc16 kV16 dc16 pm16 cd16 ct16 : Value}
    (a16 : PySem.W.nsIn K mainGlobals "all_found" = some (some (.ref f16))) (l16 : K.lookup f16 = some ⟨oc16, od16, .func (PySem.W.fnOf "all_found" "all_found" (defArgs sAll) (defBody sAll) (defScope sAll) .none kV16 dc16 pm16 an16 cd16 ct16), sl16⟩) (c16 : PySem.W.codeIn K cd16 "all_found" = true) (k16 : PySem.W.keepIn K (.ref f16) = true)
    {f21 : Addr} {od21 an21 : Option Addr} {sl21 : Array (Option Value)} {oc21 kV21 dc21 pm21 cd21 ct21 : Value}
    (a21 : PySem.W.nsIn K mainGlobals "_law_draws" = some (some (.ref f21))) (l21 : K.lookup f21 = some ⟨oc21, od21, .func (PySem.W.fnOf "_law_draws" "_law_draws" (defArgs sDraws) (defBody sDraws) (defScope sDraws) .none kV21 dc21 pm21 an21 cd21 ct21), sl21⟩) (c21 : PySem.W.codeIn K cd21 "_law_draws" = true) (k21 : PySem.W.keepIn K (.ref f21) = true)
    {f22 : Addr} {od22 an22 : Option Addr} {sl22 : Array (Option Value)} {oc22 kV22 dc22 pm22 cd22 ct22 : Value}
    (a22 : PySem.W.nsIn K mainGlobals "_law_next" = some (some (.ref f22))) (l22 : K.lookup f22 = some ⟨oc22, od22, .func (PySem.W.fnOf "_law_next" "_law_next" (defArgs sNext) (defBody sNext) (defScope sNext) .none kV22 dc22 pm22 an22 cd22 ct22), sl22⟩) (c22 : PySem.W.codeIn K cd22 "_law_next" = true) (k22 : PySem.W.keepIn K (.ref f22) = true)
    {f23 : Addr} {od23 an23 : Option Addr} {sl23 : Array (Option Value)} {oc23 kV23 dc23 pm23 cd23 ct23 : Value}
    (a23 : PySem.W.nsIn K mainGlobals "_law_order" = some (some (.ref f23))) (l23 : K.lookup f23 = some ⟨oc23, od23, .func (PySem.W.fnOf "_law_order" "_law_order" (defArgs sOrder) (defBody sOrder) (defScope sOrder) .none kV23 dc23 pm23 an23 cd23 ct23), sl23⟩) (c23 : PySem.W.codeIn K cd23 "_law_order" = true) (k23 : PySem.W.keepIn K (.ref f23) = true)
    {f25 : Addr} {od25 an25 : Option Addr} {sl25 : Array (Option Value)} {oc25 kV25 dc25 pm25 cd25 ct25 : Value}
    (a25 : PySem.W.nsIn K mainGlobals "_law_nearly" = some (some (.ref f25))) (l25 : K.lookup f25 = some ⟨oc25, od25, .func (PySem.W.fnOf "_law_nearly" "_law_nearly" (defArgs sNearly) (defBody sNearly) (defScope sNearly) .none kV25 dc25 pm25 an25 cd25 ct25), sl25⟩) (c25 : PySem.W.codeIn K cd25 "_law_nearly" = true) (k25 : PySem.W.keepIn K (.ref f25) = true)
    {f24 : Addr} {od24 an24 : Option Addr} {sl24 : Array (Option Value)} {oc24 kV24 dc24 pm24 cd24 ct24 : Value}
    (a24 : PySem.W.nsIn K mainGlobals "_law_table" = some (some (.ref f24))) (l24 : K.lookup f24 = some ⟨oc24, od24, .func (PySem.W.fnOf "_law_table" "_law_table" (defArgs sTable) (defBody sTable) (defScope sTable) .none kV24 dc24 pm24 an24 cd24 ct24), sl24⟩) (c24 : PySem.W.codeIn K cd24 "_law_table" = true) (k24 : PySem.W.keepIn K (.ref f24) = true)
    {f26 : Addr} {od26 an26 : Option Addr} {sl26 : Array (Option Value)} {oc26 kV26 dc26 pm26 cd26 ct26 : Value}
    (a26 : PySem.W.nsIn K mainGlobals "_law_up" = some (some (.ref f26))) (l26 : K.lookup f26 = some ⟨oc26, od26, .func (PySem.W.fnOf "_law_up" "_law_up" (defArgs sUp) (defBody sUp) (defScope sUp) .none kV26 dc26 pm26 an26 cd26 ct26), sl26⟩) (c26 : PySem.W.codeIn K cd26 "_law_up" = true) (k26 : PySem.W.keepIn K (.ref f26) = true)
    {f27 : Addr} {od27 an27 : Option Addr} {sl27 : Array (Option Value)} {oc27 kV27 dc27 pm27 cd27 ct27 : Value}
    (a27 : PySem.W.nsIn K mainGlobals "_law_turned" = some (some (.ref f27))) (l27 : K.lookup f27 = some ⟨oc27, od27, .func (PySem.W.fnOf "_law_turned" "_law_turned" (defArgs sLTurned) (defBody sLTurned) (defScope sLTurned) .none kV27 dc27 pm27 an27 cd27 ct27), sl27⟩) (c27 : PySem.W.codeIn K cd27 "_law_turned" = true) (k27 : PySem.W.keepIn K (.ref f27) = true)
    {f28 : Addr} {od28 an28 : Option Addr} {sl28 : Array (Option Value)} {oc28 kV28 dc28 pm28 cd28 ct28 : Value}
    (a28 : PySem.W.nsIn K mainGlobals "_law_rises" = some (some (.ref f28))) (l28 : K.lookup f28 = some ⟨oc28, od28, .func (PySem.W.fnOf "_law_rises" "_law_rises" (defArgs sRis) (defBody sRis) (defScope sRis) .none kV28 dc28 pm28 an28 cd28 ct28), sl28⟩) (c28 : PySem.W.codeIn K cd28 "_law_rises" = true) (k28 : PySem.W.keepIn K (.ref f28) = true)
    {f29 : Addr} {od29 an29 : Option Addr} {sl29 : Array (Option Value)} {oc29 kV29 dc29 pm29 cd29 ct29 : Value}
    (a29 : PySem.W.nsIn K mainGlobals "_law_whole_right" = some (some (.ref f29))) (l29 : K.lookup f29 = some ⟨oc29, od29, .func (PySem.W.fnOf "_law_whole_right" "_law_whole_right" (defArgs sWR) (defBody sWR) (defScope sWR) .none kV29 dc29 pm29 an29 cd29 ct29), sl29⟩) (c29 : PySem.W.codeIn K cd29 "_law_whole_right" = true) (k29 : PySem.W.keepIn K (.ref f29) = true)
    {f30 : Addr} {od30 an30 : Option Addr} {sl30 : Array (Option Value)} {oc30 kV30 dc30 pm30 cd30 ct30 : Value}
    (a30 : PySem.W.nsIn K mainGlobals "_law_rows_right" = some (some (.ref f30))) (l30 : K.lookup f30 = some ⟨oc30, od30, .func (PySem.W.fnOf "_law_rows_right" "_law_rows_right" (defArgs sRws) (defBody sRws) (defScope sRws) .none kV30 dc30 pm30 an30 cd30 ct30), sl30⟩) (c30 : PySem.W.codeIn K cd30 "_law_rows_right" = true) (k30 : PySem.W.keepIn K (.ref f30) = true)
    {f31 : Addr} {od31 an31 : Option Addr} {sl31 : Array (Option Value)} {oc31 kV31 dc31 pm31 cd31 ct31 : Value}
    (a31 : PySem.W.nsIn K mainGlobals "_law_columns_right" = some (some (.ref f31))) (l31 : K.lookup f31 = some ⟨oc31, od31, .func (PySem.W.fnOf "_law_columns_right" "_law_columns_right" (defArgs sCls) (defBody sCls) (defScope sCls) .none kV31 dc31 pm31 an31 cd31 ct31), sl31⟩) (c31 : PySem.W.codeIn K cd31 "_law_columns_right" = true) (k31 : PySem.W.keepIn K (.ref f31) = true)
    {f32 : Addr} {od32 an32 : Option Addr} {sl32 : Array (Option Value)} {oc32 kV32 dc32 pm32 cd32 ct32 : Value}
    (a32 : PySem.W.nsIn K mainGlobals "_law_unlike" = some (some (.ref f32))) (l32 : K.lookup f32 = some ⟨oc32, od32, .func (PySem.W.fnOf "_law_unlike" "_law_unlike" (defArgs sUnl) (defBody sUnl) (defScope sUnl) .none kV32 dc32 pm32 an32 cd32 ct32), sl32⟩) (c32 : PySem.W.codeIn K cd32 "_law_unlike" = true) (k32 : PySem.W.keepIn K (.ref f32) = true)
    {f33 : Addr} {od33 an33 : Option Addr} {sl33 : Array (Option Value)} {oc33 kV33 dc33 pm33 cd33 ct33 : Value}
    (a33 : PySem.W.nsIn K mainGlobals "_law_right" = some (some (.ref f33))) (l33 : K.lookup f33 = some ⟨oc33, od33, .func (PySem.W.fnOf "_law_right" "_law_right" (defArgs sRt) (defBody sRt) (defScope sRt) .none kV33 dc33 pm33 an33 cd33 ct33), sl33⟩) (c33 : PySem.W.codeIn K cd33 "_law_right" = true) (k33 : PySem.W.keepIn K (.ref f33) = true)
    {f34 : Addr} {od34 an34 : Option Addr} {sl34 : Array (Option Value)} {oc34 kV34 dc34 pm34 cd34 ct34 : Value}
    (a34 : PySem.W.nsIn K mainGlobals "_law_orders" = some (some (.ref f34))) (l34 : K.lookup f34 = some ⟨oc34, od34, .func (PySem.W.fnOf "_law_orders" "_law_orders" (defArgs sOrds) (defBody sOrds) (defScope sOrds) .none kV34 dc34 pm34 an34 cd34 ct34), sl34⟩) (c34 : PySem.W.codeIn K cd34 "_law_orders" = true) (k34 : PySem.W.keepIn K (.ref f34) = true)
    {f35 : Addr} {od35 an35 : Option Addr} {sl35 : Array (Option Value)} {oc35 kV35 dc35 pm35 cd35 ct35 : Value}
    (a35 : PySem.W.nsIn K mainGlobals "law" = some (some (.ref f35))) (l35 : K.lookup f35 = some ⟨oc35, od35, .func (PySem.W.fnOf "law" "law" (defArgs sLaw) (defBody sLaw) (defScope sLaw) .none kV35 dc35 pm35 an35 cd35 ct35), sl35⟩) (c35 : PySem.W.codeIn K cd35 "law" = true) (k35 : PySem.W.keepIn K (.ref f35) = true)
    (z0 : PySem.W.nsIn K mainGlobals "isinstance" = some none)
    (z1 : PySem.W.nsIn K mainGlobals "int" = some none)
    (z2 : PySem.W.nsIn K mainGlobals "bool" = some none)
    (z3 : PySem.W.nsIn K mainGlobals "list" = some none)
    (z4 : PySem.W.nsIn K mainGlobals "tuple" = some none)
    (z5 : PySem.W.nsIn K mainGlobals "len" = some none)
    (z6 : PySem.W.nsIn K mainGlobals "all" = some none)
    (z7 : PySem.W.nsIn K mainGlobals "enumerate" = some none)
    (z8 : PySem.W.nsIn K mainGlobals "zip" = some none)
    (z9 : PySem.W.nsIn K mainGlobals "sorted" = some none)
    (z10 : PySem.W.nsIn K mainGlobals "set" = some none)
    (z11 : PySem.W.nsIn K mainGlobals "sum" = some none)
    (z12 : PySem.W.nsIn K mainGlobals "min" = some none)
    (z13 : PySem.W.nsIn K mainGlobals "range" = some none)
    : ∃ fd : FuncData, (∀ (s : Shared) (v : Value), BindsTo s fd ⟨[v], []⟩ [("_law_script", v)]) ∧ ∀ base : Heap, K.In base → base.Ns mainGlobals mg → FnG l.prog w K mg base 7 fa fd ["_law_script"] (LawS K 63) := by
  have e := hfa.symm.trans (PySem.W.mg_of X G a35)
  cases e
  have F5 := fun_mk (st := sWhole) l5 c5 k5
  have b5 := F5.binds (ps := ["thing"]) fun _ _ _ _ _ _ us hl => match us, hl with | [_], _ => rfl
  have g5 := PySem.W.mg_of X G a5
  have F6 := fun_mk (st := sPair) l6 c6 k6
  have b6 := F6.binds (ps := ["thing"]) fun _ _ _ _ _ _ us hl => match us, hl with | [_], _ => rfl
  have g6 := PySem.W.mg_of X G a6
  have F9 := fun_mk (st := sLoL) l9 c9 k9
  have b9 := F9.binds (ps := ["thing"]) fun _ _ _ _ _ _ us hl => match us, hl with | [_], _ => rfl
  have g9 := PySem.W.mg_of X G a9
  have F10 := fun_mk (st := sRow) l10 c10 k10
  have b10 := F10.binds (ps := ["row"]) fun _ _ _ _ _ _ us hl => match us, hl with | [_], _ => rfl
  have g10 := PySem.W.mg_of X G a10
  have F11 := fun_mk (st := sWithin) l11 c11 k11
  have b11 := F11.binds (ps := ["place", "rows", "columns"]) fun _ _ _ _ _ _ us hl => match us, hl with | [_, _, _], _ => rfl
  have g11 := PySem.W.mg_of X G a11
  have F7 := fun_mk (st := sCkTab) l7 c7 k7
  have b7 := F7.binds (ps := ["table"]) fun _ _ _ _ _ _ us hl => match us, hl with | [_], _ => rfl
  have g7 := PySem.W.mg_of X G a7
  have F8 := fun_mk (st := sCkPl) l8 c8 k8
  have b8 := F8.binds (ps := ["place", "rows", "columns"]) fun _ _ _ _ _ _ us hl => match us, hl with | [_, _, _], _ => rfl
  have g8 := PySem.W.mg_of X G a8
  have F17 := fun_mk (st := sWalk) l17 c17 k17
  have b17 := F17.binds (ps := ["table", "key"]) fun _ _ _ _ _ _ us hl => match us, hl with | [_, _], _ => rfl
  have g17 := PySem.W.mg_of X G a17
  have F18 := fun_mk (st := sTurned) l18 c18 k18
  have b18 := F18.binds (ps := ["table"]) fun _ _ _ _ _ _ us hl => match us, hl with | [_], _ => rfl
  have g18 := PySem.W.mg_of X G a18
  have F13 := fun_mk (st := sFound) l13 c13 k13
  have b13 := F13.binds (ps := ["table", "place"]) fun _ _ _ _ _ _ us hl => match us, hl with | [_, _], _ => rfl
  have g13 := PySem.W.mg_of X G a13
  have F19 := fun_mk (st := sPF) l19 c19 k19
  have b19 := F19.binds (ps := ["table"]) fun _ _ _ _ _ _ us hl => match us, hl with | [_], _ => rfl
  have g19 := PySem.W.mg_of X G a19
  have F14 := fun_mk (st := sPlaces) l14 c14 k14
  have b14 := F14.binds (ps := ["table"]) fun _ _ _ _ _ _ us hl => match us, hl with | [_], _ => rfl
  have g14 := PySem.W.mg_of X G a14
  have F15 := fun_mk (st := sBelow) l15 c15 k15
  have b15 := F15.binds (ps := ["table"]) fun _ _ _ _ _ _ us hl => match us, hl with | [_], _ => rfl
  have g15 := PySem.W.mg_of X G a15
  have F16 := fun_mk (st := sAll) l16 c16 k16
  have b16 := F16.binds (ps := ["table"]) fun _ _ _ _ _ _ us hl => match us, hl with | [_], _ => rfl
  have g16 := PySem.W.mg_of X G a16
  have F21 := fun_mk (st := sDraws) l21 c21 k21
  have b21 := F21.binds (ps := ["_law_cell"]) fun _ _ _ _ _ _ us hl => match us, hl with | [_], _ => rfl
  have g21 := PySem.W.mg_of X G a21
  have F22 := fun_mk (st := sNext) l22 c22 k22
  have b22 := F22.binds (ps := ["_law_draws_here"]) fun _ _ _ _ _ _ us hl => match us, hl with | [_], _ => rfl
  have g22 := PySem.W.mg_of X G a22
  have F23 := fun_mk (st := sOrder) l23 c23 k23
  have b23 := F23.binds (ps := ["_law_draws_here", "_law_size"]) fun _ _ _ _ _ _ us hl => match us, hl with | [_, _], _ => rfl
  have g23 := PySem.W.mg_of X G a23
  have F25 := fun_mk (st := sNearly) l25 c25 k25
  have b25 := F25.binds (ps := ["_law_draws_here", "_law_some", "_law_kind"]) fun _ _ _ _ _ _ us hl => match us, hl with | [_, _, _], _ => rfl
  have g25 := PySem.W.mg_of X G a25
  have F24 := fun_mk (st := sTable) l24 c24 k24
  have b24 := F24.binds (ps := ["_law_draws_here", "_law_most"]) fun _ _ _ _ _ _ us hl => match us, hl with | [_, _], _ => rfl
  have g24 := PySem.W.mg_of X G a24
  have F26 := fun_mk (st := sUp) l26 c26 k26
  have b26 := F26.binds (ps := ["_law_row"]) fun _ _ _ _ _ _ us hl => match us, hl with | [_], _ => rfl
  have g26 := PySem.W.mg_of X G a26
  have F27 := fun_mk (st := sLTurned) l27 c27 k27
  have b27 := F27.binds (ps := ["_law_net"]) fun _ _ _ _ _ _ us hl => match us, hl with | [_], _ => rfl
  have g27 := PySem.W.mg_of X G a27
  have F28 := fun_mk (st := sRis) l28 c28 k28
  have b28 := F28.binds (ps := ["_law_net"]) fun _ _ _ _ _ _ us hl => match us, hl with | [_], _ => rfl
  have g28 := PySem.W.mg_of X G a28
  have F29 := fun_mk (st := sWR) l29 c29 k29
  have b29 := F29.binds (ps := ["_law_net"]) fun _ _ _ _ _ _ us hl => match us, hl with | [_], _ => rfl
  have g29 := PySem.W.mg_of X G a29
  have F30 := fun_mk (st := sRws) l30 c30 k30
  have b30 := F30.binds (ps := ["_law_net"]) fun _ _ _ _ _ _ us hl => match us, hl with | [_], _ => rfl
  have g30 := PySem.W.mg_of X G a30
  have F31 := fun_mk (st := sCls) l31 c31 k31
  have b31 := F31.binds (ps := ["_law_net"]) fun _ _ _ _ _ _ us hl => match us, hl with | [_], _ => rfl
  have g31 := PySem.W.mg_of X G a31
  have F32 := fun_mk (st := sUnl) l32 c32 k32
  have b32 := F32.binds (ps := ["_law_draws_here"]) fun _ _ _ _ _ _ us hl => match us, hl with | [_], _ => rfl
  have g32 := PySem.W.mg_of X G a32
  have F33 := fun_mk (st := sRt) l33 c33 k33
  have b33 := F33.binds (ps := ["_law_draws_here"]) fun _ _ _ _ _ _ us hl => match us, hl with | [_], _ => rfl
  have g33 := PySem.W.mg_of X G a33
  have F34 := fun_mk (st := sOrds) l34 c34 k34
  have b34 := F34.binds (ps := ["_law_size"]) fun _ _ _ _ _ _ us hl => match us, hl with | [_], _ => rfl
  have g34 := PySem.W.mg_of X G a34
  have F35 := fun_mk (st := sLaw) l35 c35 k35
  have b35 := F35.binds (ps := ["_law_script"]) fun _ _ _ _ _ _ us hl => match us, hl with | [_], _ => rfl
  have g35 := PySem.W.mg_of X G a35
  have b : Bl mg := ⟨PySem.W.mg_none_of X G z0, PySem.W.mg_none_of X G z1, PySem.W.mg_none_of X G z2, PySem.W.mg_none_of X G z3, PySem.W.mg_none_of X G z4, PySem.W.mg_none_of X G z5, PySem.W.mg_none_of X G z6, PySem.W.mg_none_of X G z7, PySem.W.mg_none_of X G z8, PySem.W.mg_none_of X G z9, PySem.W.mg_none_of X G z10, PySem.W.mg_none_of X G z11, PySem.W.mg_none_of X G z12, PySem.W.mg_none_of X G z13⟩
  have lg : ∃ t, mg "LONGEST" = some (.int 8 t) := ⟨tk, PySem.W.mg_of X G aL⟩
  refine ⟨PySem.W.fnOf "law" "law" (defArgs sLaw) (defBody sLaw) (defScope sLaw) .none kV35 dc35 pm35 an35 cd35 ct35, fun s v => .of_eq rfl, fun base _ _ => ?_⟩
  have C5 : Cal l.prog w K mg base 1 "is_whole" sWhole ["thing"] SWhole := ⟨_, _, F5, g5, b5, fWhole (k := 0) F5 b ⟩
  have C6 : Cal l.prog w K mg base 2 "is_pair" sPair ["thing"] SPair := ⟨_, _, F6, g6, b6, fPair (k := 1) F6 b C5⟩
  have C9 : Cal l.prog w K mg base 1 "_is_list_of_lists" sLoL ["thing"] SLoL := ⟨_, _, F9, g9, b9, fLoL (k := 0) F9 b lg⟩
  have C10 : Cal l.prog w K mg base 2 "_is_row" sRow ["row"] SRow := ⟨_, _, F10, g10, b10, fRow (k := 1) F10 b lg C5⟩
  have C11 : Cal l.prog w K mg base 1 "_is_within" sWithin ["place", "rows", "columns"] SWithin := ⟨_, _, F11, g11, b11, fWithin (k := 0) F11 b ⟩
  have C7 : Cal l.prog w K mg base 3 "check_table" sCkTab ["table"] SCkTab := ⟨_, _, F7, g7, b7, fCkTab (k := 2) F7 b (C9.mono (by decide)) C10⟩
  have C8 : Cal l.prog w K mg base 3 "check_place" sCkPl ["place", "rows", "columns"] SCkPl := ⟨_, _, F8, g8, b8, fCkPl (k := 2) F8 b C6 (C11.mono (by decide))⟩
  have C17 : Cal l.prog w K mg base 1 "walk" sWalk ["table", "key"] SWalk := ⟨_, _, F17, g17, b17, fWalk (k := 0) F17 b ⟩
  have C18 : Cal l.prog w K mg base 1 "turned" sTurned ["table"] STurned := ⟨_, _, F18, g18, b18, fTurned (k := 0) F18 b ⟩
  have C13 : Cal l.prog w K mg base 4 "is_found" sFound ["table", "place"] SFound := ⟨_, _, F13, g13, b13, fFound (k := 3) F13 b C7 C8 (C17.mono (by decide))⟩
  have C19 : Cal l.prog w K mg base 2 "_places_found" sPF ["table"] SPF := ⟨_, _, F19, g19, b19, fPF (k := 1) F19 b C17⟩
  have C14 : Cal l.prog w K mg base 4 "found_places" sPlaces ["table"] SPF := ⟨_, _, F14, g14, b14, fPlaces (k := 3) F14 b C7 (C19.mono (by decide))⟩
  have C15 : Cal l.prog w K mg base 4 "found_from_below" sBelow ["table"] SBelow := ⟨_, _, F15, g15, b15, fBelow (k := 3) F15 b C7 (C19.mono (by decide)) (C18.mono (by decide))⟩
  have C16 : Cal l.prog w K mg base 4 "all_found" sAll ["table"] SAll := ⟨_, _, F16, g16, b16, fAll (k := 3) F16 b C7 (C19.mono (by decide))⟩
  have C21 : Cal l.prog w K mg base 1 "_law_draws" sDraws ["_law_cell"] SDraws := ⟨_, _, F21, g21, b21, fDraws (k := 0) F21 b ⟩
  have C22 : Cal l.prog w K mg base 1 "_law_next" sNext ["_law_draws_here"] SNext := ⟨_, _, F22, g22, b22, fNext (k := 0) F22 b ⟩
  have C23 : Cal l.prog w K mg base 2 "_law_order" sOrder ["_law_draws_here", "_law_size"] SOrder := ⟨_, _, F23, g23, b23, fOrder (k := 1) F23 b C22⟩
  have C25 : Cal l.prog w K mg base 2 "_law_nearly" sNearly ["_law_draws_here", "_law_some", "_law_kind"] SNearly := ⟨_, _, F25, g25, b25, fNearly (k := 1) F25 b C22⟩
  have C24 : Cal l.prog w K mg base 3 "_law_table" sTable ["_law_draws_here", "_law_most"] STable := ⟨_, _, F24, g24, b24, fTable (k := 2) F24 b (C22.mono (by decide)) C23 C25⟩
  have C26 : Cal l.prog w K mg base 1 "_law_up" sUp ["_law_row"] SUp := ⟨_, _, F26, g26, b26, fUp (k := 0) F26 b ⟩
  have C27 : Cal l.prog w K mg base 1 "_law_turned" sLTurned ["_law_net"] STurned := ⟨_, _, F27, g27, b27, fLTurned (k := 0) F27 b ⟩
  have C28 : Cal l.prog w K mg base 2 "_law_rises" sRis ["_law_net"] SRis := ⟨_, _, F28, g28, b28, fRis (k := 1) F28 b C27 C26⟩
  have C29 : Cal l.prog w K mg base 5 "_law_whole_right" sWR ["_law_net"] SWR := ⟨_, _, F29, g29, b29, fWR (k := 4) F29 b (C28.mono (by decide)) C16 C14 C15⟩
  have C30 : Cal l.prog w K mg base 5 "_law_rows_right" sRws ["_law_net"] SRws := ⟨_, _, F30, g30, b30, fRws (k := 4) F30 b C13⟩
  have C31 : Cal l.prog w K mg base 5 "_law_columns_right" sCls ["_law_net"] SCls := ⟨_, _, F31, g31, b31, fCls (k := 4) F31 b C13⟩
  have C32 : Cal l.prog w K mg base 3 "_law_unlike" sUnl ["_law_draws_here"] SUnl := ⟨_, _, F32, g32, b32, fUnl (k := 2) F32 b (C22.mono (by decide)) C23⟩
  have C33 : Cal l.prog w K mg base 6 "_law_right" sRt ["_law_draws_here"] SRt := ⟨_, _, F33, g33, b33, fRt (k := 5) F33 b (C24.mono (by decide)) C29 (C32.mono (by decide)) C30 (C27.mono (by decide)) C31⟩
  have C34 : Cal l.prog w K mg base 1 "_law_orders" sOrds ["_law_size"] SOrds := ⟨_, _, F34, g34, b34, fOrds (k := 0) F34 b ⟩
  exact fLaw (k := 6) F35 b (C34.mono (by decide)) (C29.mono (by decide)) (C28.mono (by decide)) (C21.mono (by decide)) C33 (C16.mono (by decide))
end K04
open PySem PySem.W PyProof.Rows
set_option maxHeartbeats 0 in
theorem PySem.Challenge.cw_halftables_k04_whole_tables_that_rise_holds : PySem.Challenge.rw_halftables_k04_whole_tables_that_rise.Holds := by
  w_on; o_law; k_head; (case hw => w_witness2)
  k_fill
  refine G.walkG (l := PySem.Challenge.rw_halftables_k04_whole_tables_that_rise) (n := 63) (k := 7) (x := "_law_script") rfl (by decide) rfl ⟨rfl, by decide, by decide⟩ (fun w h Y => PySem.W.kIn_of Y) ?F
  case F =>
    intro w mg fa h KX G hmg
    refine' K04.all_mk KX G hmg ?aL ?a5 ?l5 ?c5 ?k5 ?a6 ?l6 ?c6 ?k6 ?a9 ?l9 ?c9 ?k9 ?a10 ?l10 ?c10 ?k10 ?a11 ?l11 ?c11 ?k11 ?a7 ?l7 ?c7 ?k7 ?a8 ?l8 ?c8 ?k8 ?a17 ?l17 ?c17 ?k17 ?a18 ?l18 ?c18 ?k18 ?a13 ?l13 ?c13 ?k13 ?a19 ?l19 ?c19 ?k19 ?a14 ?l14 ?c14 ?k14 ?a15 ?l15 ?c15 ?k15 ?a16 ?l16 ?c16 ?k16 ?a21 ?l21 ?c21 ?k21 ?a22 ?l22 ?c22 ?k22 ?a23 ?l23 ?c23 ?k23 ?a25 ?l25 ?c25 ?k25 ?a24 ?l24 ?c24 ?k24 ?a26 ?l26 ?c26 ?k26 ?a27 ?l27 ?c27 ?k27 ?a28 ?l28 ?c28 ?k28 ?a29 ?l29 ?c29 ?k29 ?a30 ?l30 ?c30 ?k30 ?a31 ?l31 ?c31 ?k31 ?a32 ?l32 ?c32 ?k32 ?a33 ?l33 ?c33 ?k33 ?a34 ?l34 ?c34 ?k34 ?a35 ?l35 ?c35 ?k35  ?z0 ?z1 ?z2 ?z3 ?z4 ?z5 ?z6 ?z7 ?z8 ?z9 ?z10 ?z11 ?z12 ?z13
    (case aL => k_is)
    (case a5 => k_is); (case l5 => k_is); (case c5 => k_is); (case k5 => k_is)
    (case a6 => k_is); (case l6 => k_is); (case c6 => k_is); (case k6 => k_is)
    (case a9 => k_is); (case l9 => k_is); (case c9 => k_is); (case k9 => k_is)
    (case a10 => k_is); (case l10 => k_is); (case c10 => k_is); (case k10 => k_is)
    (case a11 => k_is); (case l11 => k_is); (case c11 => k_is); (case k11 => k_is)
    (case a7 => k_is); (case l7 => k_is); (case c7 => k_is); (case k7 => k_is)
    (case a8 => k_is); (case l8 => k_is); (case c8 => k_is); (case k8 => k_is)
    (case a17 => k_is); (case l17 => k_is); (case c17 => k_is); (case k17 => k_is)
    (case a18 => k_is); (case l18 => k_is); (case c18 => k_is); (case k18 => k_is)
    (case a13 => k_is); (case l13 => k_is); (case c13 => k_is); (case k13 => k_is)
    (case a19 => k_is); (case l19 => k_is); (case c19 => k_is); (case k19 => k_is)
    (case a14 => k_is); (case l14 => k_is); (case c14 => k_is); (case k14 => k_is)
    (case a15 => k_is); (case l15 => k_is); (case c15 => k_is); (case k15 => k_is)
    (case a16 => k_is); (case l16 => k_is); (case c16 => k_is); (case k16 => k_is)
    (case a21 => k_is); (case l21 => k_is); (case c21 => k_is); (case k21 => k_is)
    (case a22 => k_is); (case l22 => k_is); (case c22 => k_is); (case k22 => k_is)
    (case a23 => k_is); (case l23 => k_is); (case c23 => k_is); (case k23 => k_is)
    (case a25 => k_is); (case l25 => k_is); (case c25 => k_is); (case k25 => k_is)
    (case a24 => k_is); (case l24 => k_is); (case c24 => k_is); (case k24 => k_is)
    (case a26 => k_is); (case l26 => k_is); (case c26 => k_is); (case k26 => k_is)
    (case a27 => k_is); (case l27 => k_is); (case c27 => k_is); (case k27 => k_is)
    (case a28 => k_is); (case l28 => k_is); (case c28 => k_is); (case k28 => k_is)
    (case a29 => k_is); (case l29 => k_is); (case c29 => k_is); (case k29 => k_is)
    (case a30 => k_is); (case l30 => k_is); (case c30 => k_is); (case k30 => k_is)
    (case a31 => k_is); (case l31 => k_is); (case c31 => k_is); (case k31 => k_is)
    (case a32 => k_is); (case l32 => k_is); (case c32 => k_is); (case k32 => k_is)
    (case a33 => k_is); (case l33 => k_is); (case c33 => k_is); (case k33 => k_is)
    (case a34 => k_is); (case l34 => k_is); (case c34 => k_is); (case k34 => k_is)
    (case a35 => k_is); (case l35 => k_is); (case c35 => k_is); (case k35 => k_is)
    (case z0 => k_is); (case z1 => k_is); (case z2 => k_is); (case z3 => k_is); (case z4 => k_is); (case z5 => k_is); (case z6 => k_is); (case z7 => k_is); (case z8 => k_is); (case z9 => k_is); (case z10 => k_is); (case z11 => k_is); (case z12 => k_is); (case z13 => k_is)
