import PyProof.Rows.All
import Wide.All
import OpenK.AllK
import Wide.FinOn
import HandS.ForMost
import HandS.SortInts
import HandS.Walk
import HandS.Star
import HandS.IsInst
import HandS.Deep
import PyProof.SumAny
import PyProof.ZipIter
import KE.KStar
import HandS.SetFor
import HandS.Strs
import HandS.Conv
import HandS.Wide
import HandS.Ends
import HandS.EndBits
import HandS.SortOrd
import HandS.SetBool
import HandS.Comp
import HandS.Zip
import HandS.Iter
import HandS.RevRange
import HandS.Flow
import HandS.Exc
import HandS.ExcSuper
import KE.KExcSuper
import KE.KExcInit
import KE.KTryMore
import OpenK.KMake
import HandS.Property
import HandS.ExcIs
import KE.KExcIs
import HandS.Lambda
import HandS.EndTab
import PyProof.WalkInts
import KE.KMinBuiltin
import HandS.DictTup
import KE.KDictDisplayH
import HandS.TupLen
import HandS.Text
import HandS.DictSubView
import PyProof.SumWalk
import PyProof.Rows.SumGenD
import KE.KMathGC
import HandS.Gcd
import KE.IntTextText
import PySem.Challenge.RW_halftables_k01_paths_and_ends
set_option Elab.async false
set_option linter.all false
set_option maxRecDepth 100000
set_option maxHeartbeats 4000000

/-! G: a logic over pure data and a small explicit heap of lists that may change. -/
namespace G
open PySem PySem.Spec PyProof.Rows L2

/-! ### data that never changes: F is the part of the heap that is frozen for good -/
mutual
inductive Dt (F : Hp) : V → PyData → Prop
  | non : Dt F .non .none
  | bl (b : Bool) : Dt F (.bl b) (.bool b)
  | int (i : Int) : Dt F (.int i) (.int i)
  | str (x : Str) : Dt F (.str x) (.str x)
  | lst {a : Addr} {xs : List V} {ds : List PyData} : F a = some (.lst xs) → DtA F xs ds → Dt F (.ref a) (.list ds)
  | tup {a : Addr} {xs : List V} {ds : List PyData} : F a = some (.tup xs) → DtA F xs ds → Dt F (.ref a) (.tuple ds)
  | dic {a : Addr} : F a = some (.dT []) → Dt F (.ref a) (.dict [])
inductive DtA (F : Hp) : List V → List PyData → Prop
  | nil : DtA F [] []
  | cons {v : V} {vs : List V} {d : PyData} {ds : List PyData} : Dt F v d → DtA F vs ds → DtA F (v :: vs) (d :: ds)
end
section
variable {F F' H : Hp}
mutual
theorem Dt.mono (e : Same F F') : ∀ {v : V} {d : PyData}, Dt F v d → Dt F' v d
  | _, _, .non => .non
  | _, _, .bl b => .bl b
  | _, _, .int i => .int i
  | _, _, .str x => .str x
  | _, _, .lst h a => .lst (e _ _ h) (DtA.mono e a)
  | _, _, .tup h a => .tup (e _ _ h) (DtA.mono e a)
  | _, _, .dic h => .dic (e _ _ h)
theorem DtA.mono (e : Same F F') : ∀ {vs : List V} {ds : List PyData}, DtA F vs ds → DtA F' vs ds
  | _, _, .nil => .nil
  | _, _, .cons h a => .cons (Dt.mono e h) (DtA.mono e a)
end
mutual
theorem Dt.dp {K : PySem.W.Frag} : ∀ {v : V} {d : PyData}, Dt H v d → d.hasDict = false → Dp K H v d
  | _, _, .non, _ => .non
  | _, _, .bl b, _ => .bl b
  | _, _, .int i, _ => .int i
  | _, _, .str x, _ => .str x
  | _, _, .lst h a, nd => .lst (.of h) (DtA.dp a (by simpa only [PyData.hasDict] using nd))
  | _, _, .tup h a, nd => .tup (.of h) (DtA.dp a (by simpa only [PyData.hasDict] using nd))
  | _, _, .dic h, nd => by simp [PyData.hasDict] at nd
theorem DtA.dp {K : PySem.W.Frag} : ∀ {vs : List V} {ds : List PyData}, DtA H vs ds → PyData.hasDictAll ds = false → DpAll K H vs ds
  | _, _, .nil, _ => .nil
  | _, _, .cons h a, nd => by
    simp only [PyData.hasDictAll, Bool.or_eq_false_iff] at nd
    exact .cons (Dt.dp h nd.1) (DtA.dp a nd.2)
end
theorem shaped_nd {d : PyData} (h : SeqAt.shaped d = true) : d.hasDict = false := by
  unfold SeqAt.shaped at h
  rw [Bool.and_eq_true] at h
  exact PyData.hasDict_of_canLay d h.1
theorem DtA.length : ∀ {vs : List V} {ds : List PyData}, DtA F vs ds → vs.length = ds.length
  | _, _, .nil => rfl
  | _, _, .cons _ a => congrArg (· + 1) (DtA.length a)
theorem DtA.get : ∀ {vs : List V} {ds : List PyData} {i : Nat} {d : PyData}, DtA F vs ds → ds[i]? = some d → ∃ v, vs[i]? = some v ∧ Dt F v d
  | _, _, i, d, .nil, h => by simp at h
  | _, _, 0, d, .cons h a, e => by simp at e; subst e; exact ⟨_, rfl, h⟩
  | _, _, i + 1, d, .cons h a, e => by
    obtain ⟨v, e1, e2⟩ := DtA.get (i := i) (d := d) a (by simpa using e)
    exact ⟨v, by simpa using e1, e2⟩
theorem DtA.append : ∀ {vs ws : List V} {ds es : List PyData}, DtA F vs ds → DtA F ws es → DtA F (vs ++ ws) (ds ++ es)
  | _, _, _, _, .nil, b => b
  | _, _, _, _, .cons h a, b => .cons h (DtA.append a b)
theorem DtA.drop : ∀ {vs : List V} {ds : List PyData} (n : Nat), DtA F vs ds → DtA F (vs.drop n) (ds.drop n)
  | _, _, 0, a => a
  | _, _, n + 1, .nil => .nil
  | _, _, n + 1, .cons h a => DtA.drop n a
theorem DtA.take : ∀ {vs : List V} {ds : List PyData} (n : Nat), DtA F vs ds → DtA F (vs.take n) (ds.take n)
  | _, _, 0, a => .nil
  | _, _, n + 1, .nil => .nil
  | _, _, n + 1, .cons h a => .cons h (DtA.take n a)
theorem DtA.ints : ∀ {vs : List V} {ns : List Int}, DtA F vs (ns.map PyData.int) → vs = ns.map V.int
  | _, [], .nil => rfl
  | _, n :: ns, .cons h a => by
    cases h
    rw [DtA.ints a]
    rfl
theorem DtA.of_ints : ∀ (ns : List Int), DtA F (ns.map V.int) (ns.map PyData.int)
  | [] => .nil
  | n :: ns => .cons (.int n) (DtA.of_ints ns)
theorem DtA.bools : ∀ {vs : List V} {ns : List Bool}, DtA F vs (ns.map PyData.bool) → vs = ns.map V.bl
  | _, [], .nil => rfl
  | _, n :: ns, .cons h a => by
    cases h
    rw [DtA.bools a]
    rfl
end

/-! ### results: data, a bare value, or nothing known; the changing lists -/
/-- something known of a value that is no data: it is told of what is frozen -/
structure SemP where
  φ : Hp → V → Prop
  mono : ∀ {F F' : Hp} {v : V}, Same F F' → φ F v → φ F' v
inductive SD where
  | un
  | pu (d : PyData)
  | rf (v : V)
  | pv (v : V) (d : PyData)
  | tp (vs : List V)
  | ob (C : Addr) (ds : List (Str × PyData))
  | sm (p : SemP)
/-- the fields of a frozen object, told as data -/
abbrev DFld (F : Hp) (a : Str × V) (b : Str × PyData) : Prop := a.1 = b.1 ∧ Dt F a.2 b.2
/-- a name's place -/
def SOk (F : Hp) : Option V → SD → Prop
  | _, .un => True
  | some v, .pu d => Dt F v d
  | some v, .rf u => v = u
  | some v, .pv u d => v = u ∧ Dt F u d
  | some v, .tp vs => ∃ a, v = .ref a ∧ F a = some (.tup vs)
  | some v, .ob C ds => ∃ a dx vs, v = .ref a ∧ F a = some (.ins C dx vs) ∧ Paired (DFld F) vs ds
  | some v, .sm p => p.φ F v
  | none, .pu _ => False
  | none, .rf _ => False
  | none, .pv _ _ => False
  | none, .tp _ => False
  | none, .ob _ _ => False
  | none, .sm _ => False
abbrev VOk (F : Hp) (v : V) (r : SD) : Prop := SOk F (some v) r
/-- something known of an object that may change -/
structure SemM where
  φ : Hp → Hp → Addr → Prop
  mono : ∀ {F F' H H' : Hp} {a : Addr}, Same F F' → (∀ o, H a = some o → H' a = some o) → φ F H a → φ F' H' a
  notup : ∀ {F H : Hp} {a : Addr} {xs : List V}, φ F H a → H a ≠ some (.tup xs)
  there : ∀ {F H : Hp} {a : Addr}, φ F H a → ∃ o, H a = some o
inductive MO where
  | lst (xs : List SD)
  | frz (xs : List V)
  | dct (kvs : List (List Key × SD))
  | obj (C : Addr) (fs : List (Str × SD))
  | fdc (o : Obj) (vs : List (List Key × V)) (kvs : List (List Key × SD))
  | dck (kvs : List (Key × SD))
  | fdk (o : Obj) (vs : List (Key × V)) (kvs : List (Key × SD))
  | sm (p : SemM)
/-- the entries of a dict whose keys are numbers or texts -/
abbrev KEnt (F : Hp) (a : Key × V) (b : Key × SD) : Prop := a.1 = b.1 ∧ SOk F (some a.2) b.2
/-- the entries of a dict, told of data -/
abbrev DEnt (F : Hp) (a : List Key × V) (b : List Key × SD) : Prop := a.1 = b.1 ∧ VOk F a.2 b.2
/-- the fields of an object, told of data -/
abbrev FEnt (F : Hp) (a : Str × V) (b : Str × SD) : Prop := a.1 = b.1 ∧ VOk F a.2 b.2
abbrev Mem := List (Addr × MO)
def MOk (F H : Hp) (p : Addr × MO) : Prop := match p.2 with
  | .lst xs => ∃ vs, H p.1 = some (.lst vs) ∧ Paired (VOk F) vs xs
  | .frz xs => ∃ o, H p.1 = some (.frz o (.lst xs))
  | .dct kvs => ∃ vs, H p.1 = some (.dT vs) ∧ Paired (DEnt F) vs kvs
  | .obj C fs => ∃ dx vs, H p.1 = some (.ins C dx vs) ∧ Paired (FEnt F) vs fs
  | .fdc o vs kvs => H p.1 = some (.frz o (.dT vs)) ∧ Paired (DEnt F) vs kvs
  | .dck kvs => ∃ vs, H p.1 = some (.dK vs) ∧ Paired (KEnt F) vs kvs
  | .fdk o vs kvs => H p.1 = some (.frz o (.dK vs)) ∧ Paired (KEnt F) vs kvs
  | .sm m => m.φ F H p.1
structure Bs where
  H0 : Hp
  O0 : Addr → Prop
  F0 : Hp
structure Wd (B : Bs) (F H : Hp) (M : Mem) : Prop where
  fh : Same F H
  f0 : Same B.F0 F
  fnew : ∀ a o, F a = some o → (B.F0 a = some o ∨ ∃ xs, o = HO.tup xs) ∨ B.H0 a = none ∨ B.O0 a
  keep : ∀ a o, B.H0 a = some o → ¬ B.O0 a → H a = some o
  dom : ∀ a, H a = none → B.H0 a = none
  mem : ∀ p ∈ M, F p.1 = none ∧ MOk F H p
  nd : (M.map (·.1)).Nodup
  new : ∀ p ∈ M, B.H0 p.1 = none ∨ B.O0 p.1
abbrev here (F H : Hp) (M : Mem) : Bs := ⟨H, fun a => a ∈ M.map (·.1), F⟩

section
variable {F F' H H' : Hp} {B : Bs} {M M' Mr : Mem} {v : V} {r : SD}
theorem SOk.mono (e : Same F F') : ∀ {o : Option V} {r : SD}, SOk F o r → SOk F' o r
  | _, .un, _ => trivial
  | some _, .pu _, h => Dt.mono e h
  | some _, .rf _, h => h
  | some _, .pv _ _, h => ⟨h.1, Dt.mono e h.2⟩
  | none, .pu _, h => h
  | none, .rf _, h => h
  | none, .pv _ _, h => h
  | some _, .tp _, ⟨a, h1, h2⟩ => ⟨a, h1, e _ _ h2⟩
  | none, .tp _, h => h
  | some _, .ob _ _, ⟨a, dx, vs, h1, h2, h3⟩ => ⟨a, dx, vs, h1, e _ _ h2, Paired.mapP h3 fun _ _ q => ⟨q.1, Dt.mono e q.2⟩⟩
  | none, .ob _ _, h => h
  | some _, .sm p, h => p.mono e h
  | none, .sm _, h => h
theorem pMono (e : Same F F') {σ : List (Option V)} {ρ : List SD} (h : Paired (SOk F) σ ρ) : Paired (SOk F') σ ρ := Paired.mapP h fun _ _ q => q.mono e
theorem vMono (e : Same F F') {σ : List V} {ρ : List SD} (h : Paired (VOk F) σ ρ) : Paired (VOk F') σ ρ := Paired.mapP h fun _ _ q => SOk.mono e q
theorem MOk.mono {p : Addr × MO} (e : Same F F') (h : MOk F H p) (k : ∀ o, H p.1 = some o → H' p.1 = some o) : MOk F' H' p := by
  obtain ⟨a, mo⟩ := p
  cases mo with
  | lst xs =>
    obtain ⟨vs, h1, h2⟩ := h
    exact ⟨vs, k _ h1, vMono e h2⟩
  | frz xs =>
    obtain ⟨o, h1⟩ := h
    exact ⟨o, k _ h1⟩
  | dct kvs =>
    obtain ⟨vs, h1, h2⟩ := h
    exact ⟨vs, k _ h1, Paired.mapP h2 fun _ _ q => ⟨q.1, SOk.mono e q.2⟩⟩
  | obj C fs =>
    obtain ⟨dx, vs, h1, h2⟩ := h
    exact ⟨dx, vs, k _ h1, Paired.mapP h2 fun _ _ q => ⟨q.1, SOk.mono e q.2⟩⟩
  | fdc o vs kvs =>
    obtain ⟨h1, h2⟩ := h
    exact ⟨k _ h1, Paired.mapP h2 fun _ _ q => ⟨q.1, SOk.mono e q.2⟩⟩
  | dck kvs =>
    obtain ⟨vs, h1, h2⟩ := h
    exact ⟨vs, k _ h1, Paired.mapP h2 fun _ _ q => ⟨q.1, SOk.mono e q.2⟩⟩
  | fdk o vs kvs =>
    obtain ⟨h1, h2⟩ := h
    exact ⟨k _ h1, Paired.mapP h2 fun _ _ q => ⟨q.1, SOk.mono e q.2⟩⟩
  | sm m => exact m.mono e k h
theorem MOk.notup {p : Addr × MO} (h : MOk F H p) {xs : List V} : H p.1 ≠ some (.tup xs) := by
  obtain ⟨a, mo⟩ := p
  intro e
  cases mo with
  | lst xs =>
    obtain ⟨vs, h1, h2⟩ := h
    exact nomatch h1.symm.trans e
  | frz xs =>
    obtain ⟨o, h1⟩ := h
    exact nomatch h1.symm.trans e
  | dct kvs =>
    obtain ⟨vs, h1, h2⟩ := h
    exact nomatch h1.symm.trans e
  | obj C fs =>
    obtain ⟨dx, vs, h1, h2⟩ := h
    exact nomatch h1.symm.trans e
  | fdc o vs kvs =>
    obtain ⟨h1, h2⟩ := h
    exact nomatch h1.symm.trans e
  | dck kvs =>
    obtain ⟨vs, h1, h2⟩ := h
    exact nomatch h1.symm.trans e
  | fdk o vs kvs =>
    obtain ⟨h1, h2⟩ := h
    exact nomatch h1.symm.trans e
  | sm m => exact m.notup h e
theorem MOk.there {p : Addr × MO} (h : MOk F H p) : ∃ o, H p.1 = some o := by
  obtain ⟨a, mo⟩ := p
  cases mo with
  | lst xs =>
    obtain ⟨vs, h1, h2⟩ := h
    exact ⟨_, h1⟩
  | frz xs =>
    obtain ⟨o, h1⟩ := h
    exact ⟨_, h1⟩
  | dct kvs =>
    obtain ⟨vs, h1, h2⟩ := h
    exact ⟨_, h1⟩
  | obj C fs =>
    obtain ⟨dx, vs, h1, h2⟩ := h
    exact ⟨_, h1⟩
  | fdc o vs kvs =>
    obtain ⟨h1, h2⟩ := h
    exact ⟨_, h1⟩
  | dck kvs =>
    obtain ⟨vs, h1, h2⟩ := h
    exact ⟨_, h1⟩
  | fdk o vs kvs =>
    obtain ⟨h1, h2⟩ := h
    exact ⟨_, h1⟩
  | sm m => exact m.there h
theorem Wd.here (W : Wd B F H M) : Wd (here F H M) F H M where
  fh := W.fh
  f0 := fun _ _ h => h
  fnew := fun a o h => .inl (.inl h)
  keep := fun a o h _ => h
  dom := fun a h => h
  mem := W.mem
  nd := W.nd
  new := fun p hp => .inr (List.mem_map_of_mem hp)
/-- some of the changing lists are forgotten -/
theorem Wd.sub (W : Wd B F H M) (hs : List.Sublist M' M) : Wd B F H M' where
  fh := W.fh
  f0 := W.f0
  fnew := W.fnew
  keep := W.keep
  dom := W.dom
  mem := fun p hp => W.mem p (hs.subset hp)
  nd := W.nd.sublist (hs.map _)
  new := fun p hp => W.new p (hs.subset hp)
theorem Wd.perm (W : Wd B F H M) (hp : M.Perm M') : Wd B F H M' where
  fh := W.fh
  f0 := W.f0
  fnew := W.fnew
  keep := W.keep
  dom := W.dom
  mem := fun p h => W.mem p (hp.symm.subset h)
  nd := (hp.map _).nodup_iff.mp W.nd
  new := fun p h => W.new p (hp.symm.subset h)
/-- THE FRAME: what ran over Ma alone has left Mr as it was -/
theorem Wd.frame {Ma : Mem} (W : Wd B F H (Ma ++ Mr)) (W' : Wd (G.here F H Ma) F' H' M') : Wd B F' H' (M' ++ Mr) := by
  have hnd : (Ma.map (·.1) ++ Mr.map (·.1)).Nodup := by
    have h := W.nd
    rwa [List.map_append] at h
  have dis : ∀ p ∈ Mr, p.1 ∉ Ma.map (·.1) := fun p hp hm => by
    have h := (List.nodup_append.mp hnd).2.2
    exact h _ hm _ (List.mem_map_of_mem hp) rfl
  have kr : ∀ p ∈ Mr, ∀ o, H p.1 = some o → H' p.1 = some o := fun p hp o h => W'.keep p.1 o h (dis p hp)
  refine ⟨W'.fh, fun a o h => W'.f0 a o (W.f0 a o h), fun a o h => ?_, fun a o h hn => ?_, fun a h => W.dom a (W'.dom a h), fun p hp => ?_, ?_, fun p hp => ?_⟩
  · rcases W'.fnew a o h with (q | q) | q | q
    · exact W.fnew a o q
    · exact .inl (.inr q)
    · exact .inr (.inl (W.dom a q))
    · obtain ⟨p, hp, e⟩ := List.mem_map.mp q
      subst e
      rcases W.new p (List.mem_append_left _ hp) with z | z
      · exact .inr (.inl z)
      · exact .inr (.inr z)
  · refine W'.keep a o (W.keep a o h hn) fun q => ?_
    obtain ⟨p, hp, e⟩ := List.mem_map.mp q
    subst e
    rcases W.new p (List.mem_append_left _ hp) with z | z
    · rw [h] at z
      cases z
    · exact hn z
  · rcases List.mem_append.mp hp with q | q
    · exact W'.mem p q
    · obtain ⟨f1, f2⟩ := W.mem p (List.mem_append_right _ q)
      refine ⟨?_, f2.mono W'.f0 (kr p q)⟩
      cases e : F' p.1 with
      | none => rfl
      | some o =>
        obtain ⟨o', ho⟩ := f2.there
        rcases W'.fnew _ _ e with (z | z) | z | z
        · have z : F p.1 = some o := z
          rw [f1] at z
          cases z
        · obtain ⟨xs, rfl⟩ := z
          have h1 := W'.fh _ _ e
          rw [kr p q _ ho] at h1
          exact absurd (ho.trans h1) f2.notup
        · have z : H p.1 = none := z
          rw [ho] at z
          cases z
        · exact absurd z (dis p q)
  · rw [List.map_append]
    refine List.nodup_append.mpr ⟨W'.nd, (List.nodup_append.mp hnd).2.1, fun a ha b hb e => ?_⟩
    subst e
    obtain ⟨p, hp, e⟩ := List.mem_map.mp ha
    obtain ⟨q, hq, e'⟩ := List.mem_map.mp hb
    obtain ⟨o', ho⟩ := (W.mem q (List.mem_append_right _ hq)).2.there
    rcases W'.new p hp with z | z
    · have z : H p.1 = none := z
      rw [e, ← e', ho] at z
      cases z
    · have z : p.1 ∈ Ma.map (·.1) := z
      rw [e, ← e'] at z
      exact dis q hq z
  · rcases List.mem_append.mp hp with q | q
    · rcases W'.new p q with z | z
      · exact .inl (W.dom _ z)
      · have z : p.1 ∈ Ma.map (·.1) := z
        obtain ⟨p', hp', e⟩ := List.mem_map.mp z
        have h := W.new p' (List.mem_append_left _ hp')
        rwa [e] at h
    · exact W.new p (List.mem_append_right _ q)
theorem Wd.trans (W : Wd B F H M) (W' : Wd (G.here F H M) F' H' M') : Wd B F' H' M' := by
  have h := Wd.frame (Mr := []) (by rwa [List.append_nil]) W'
  rwa [List.append_nil] at h
theorem Wd.fresh (W : Wd B F H M) {p : Addr} (h : H p = none) : F p = none ∧ B.H0 p = none ∧ p ∉ M.map (·.1) := by
  refine ⟨?_, W.dom p h, fun hm => ?_⟩
  · cases e : F p with
    | none => rfl
    | some o =>
      rw [W.fh _ _ e] at h
      cases h
  · obtain ⟨q, hq, e⟩ := List.mem_map.mp hm
    obtain ⟨o, ho⟩ := (W.mem q hq).2.there
    rw [e, h] at ho
    cases ho
/-- a new object that is not followed -/
theorem Wd.other (W : Wd B F H M) {p : Addr} {o : HO} (h : H p = none) : Wd B F (upd H p o) M := by
  obtain ⟨f1, f2, f3⟩ := W.fresh h
  refine ⟨fun a u e => ?_, W.f0, W.fnew, fun a u e n => ?_, fun a e => ?_, fun q hq => ?_, W.nd, W.new⟩
  · rw [upd_ne (ne_of_none (W.fh _ _ e) h)]
    exact W.fh _ _ e
  · have z := W.keep a u e n
    rw [upd_ne (ne_of_none z h)]
    exact z
  · by_cases z : a = p
    · rw [z, upd_same] at e
      cases e
    · rw [upd_ne z] at e
      exact W.dom a e
  · obtain ⟨g1, g2⟩ := W.mem q hq
    refine ⟨g1, g2.mono (fun _ _ h => h) fun u e => ?_⟩
    rw [upd_ne (ne_of_none e h)]
    exact e
/-- a new object that is frozen at once -/
theorem Wd.froz (W : Wd B F H M) {p : Addr} {o : HO} (h : H p = none) : Wd B (upd F p o) (upd H p o) M ∧ Same F (upd F p o) := by
  obtain ⟨f1, f2, f3⟩ := W.fresh h
  have W2 := W.other (o := o) h
  have sf : Same F (upd F p o) := fun a u e => by
    rw [upd_ne (ne_of_none e f1)]
    exact e
  refine ⟨⟨fun a u e => ?_, fun a u e => sf a u (W.f0 a u e), fun a u e => ?_, W2.keep, W2.dom, fun q hq => ?_, W.nd, W.new⟩, sf⟩
  · by_cases z : a = p
    · rw [z, upd_same] at e ⊢
      exact e
    · rw [upd_ne z] at e
      exact W2.fh a u e
  · by_cases z : a = p
    · rw [z]
      exact .inr (.inl f2)
    · rw [upd_ne z] at e
      exact W.fnew a u e
  · obtain ⟨g1, g2⟩ := W2.mem q hq
    refine ⟨?_, g2.mono sf fun u e => e⟩
    rw [upd_ne]
    · exact g1
    · intro z
      exact f3 (List.mem_map.mpr ⟨q, hq, z⟩)
/-- a new list that may change -/
theorem Wd.newl (W : Wd B F H M) {p : Addr} {vs : List V} {xs : List SD} (h : H p = none) (hx : Paired (VOk F) vs xs) : Wd B F (upd H p (.lst vs)) ((p, .lst xs) :: M) := by
  obtain ⟨f1, f2, f3⟩ := W.fresh h
  have W2 := W.other (o := .lst vs) h
  refine ⟨W2.fh, W2.f0, W2.fnew, W2.keep, W2.dom, fun q hq => ?_, ?_, fun q hq => ?_⟩
  · rcases List.mem_cons.mp hq with z | z
    · rw [z]
      exact ⟨f1, vs, upd_same, hx⟩
    · exact W2.mem q z
  · rw [List.map_cons]
    exact List.nodup_cons.mpr ⟨f3, W.nd⟩
  · rcases List.mem_cons.mp hq with z | z
    · rw [z]
      exact .inl f2
    · exact W2.new q z
/-- the first of the changing lists is written -/
theorem Wd.write {p : Addr} {xs ys : List SD} {ws : List V} (W : Wd B F H ((p, .lst xs) :: M)) (hx : Paired (VOk F) ws ys) : Wd B F (upd H p (.lst ws)) ((p, .lst ys) :: M) := by
  obtain ⟨f1, vs, f2, f3⟩ := W.mem (p, .lst xs) List.mem_cons_self
  have f1 : F p = none := f1
  have f2 : H p = some (.lst vs) := f2
  have nd : p ∉ M.map (·.1) ∧ (M.map (·.1)).Nodup := by
    have h := W.nd
    rw [List.map_cons] at h
    exact List.nodup_cons.mp h
  have nw := W.new (p, .lst xs) List.mem_cons_self
  refine ⟨fun a u e => ?_, W.f0, W.fnew, fun a u e n => ?_, fun a e => ?_, fun q hq => ?_, ?_, fun q hq => ?_⟩
  · rw [upd_ne (ne_of_none e f1)]
    exact W.fh _ _ e
  · have hne : a ≠ p := fun z => by
      subst z
      rcases nw with q | q
      · have q : B.H0 a = none := q
        rw [e] at q
        cases q
      · exact n q
    rw [upd_ne hne]
    exact W.keep a u e n
  · by_cases z : a = p
    · rw [z, upd_same] at e
      cases e
    · rw [upd_ne z] at e
      exact W.dom a e
  · rcases List.mem_cons.mp hq with z | z
    · rw [z]
      exact ⟨f1, ws, upd_same, hx⟩
    · obtain ⟨g1, g2⟩ := W.mem q (List.mem_cons_of_mem _ z)
      refine ⟨g1, g2.mono (fun _ _ h => h) fun u e => ?_⟩
      rw [upd_ne]
      · exact e
      · intro y
        exact nd.1 (List.mem_map.mpr ⟨q, z, y⟩)
  · rw [List.map_cons]
    exact List.nodup_cons.mpr nd
  · rcases List.mem_cons.mp hq with z | z
    · rw [z]
      exact nw
    · exact W.new q (List.mem_cons_of_mem _ z)
/-- the first of the changing dicts is written -/
theorem Wd.writeD {p : Addr} {xs ys : List (List Key × SD)} {ws : List (List Key × V)} (W : Wd B F H ((p, .dct xs) :: M)) (hx : Paired (DEnt F) ws ys) : Wd B F (upd H p (.dT ws)) ((p, .dct ys) :: M) := by
  obtain ⟨f1, vs, f2, f3⟩ := W.mem (p, .dct xs) List.mem_cons_self
  have f1 : F p = none := f1
  have f2 : H p = some (.dT vs) := f2
  have nd : p ∉ M.map (·.1) ∧ (M.map (·.1)).Nodup := by
    have h := W.nd
    rw [List.map_cons] at h
    exact List.nodup_cons.mp h
  have nw := W.new (p, .dct xs) List.mem_cons_self
  refine ⟨fun a u e => ?_, W.f0, W.fnew, fun a u e n => ?_, fun a e => ?_, fun q hq => ?_, ?_, fun q hq => ?_⟩
  · rw [upd_ne (ne_of_none e f1)]
    exact W.fh _ _ e
  · have hne : a ≠ p := fun z => by
      subst z
      rcases nw with q | q
      · have q : B.H0 a = none := q
        rw [e] at q
        cases q
      · exact n q
    rw [upd_ne hne]
    exact W.keep a u e n
  · by_cases z : a = p
    · rw [z, upd_same] at e
      cases e
    · rw [upd_ne z] at e
      exact W.dom a e
  · rcases List.mem_cons.mp hq with z | z
    · rw [z]
      exact ⟨f1, ws, upd_same, hx⟩
    · obtain ⟨g1, g2⟩ := W.mem q (List.mem_cons_of_mem _ z)
      refine ⟨g1, g2.mono (fun _ _ h => h) fun u e => ?_⟩
      rw [upd_ne]
      · exact e
      · intro y
        exact nd.1 (List.mem_map.mpr ⟨q, z, y⟩)
  · rw [List.map_cons]
    exact List.nodup_cons.mpr nd
  · rcases List.mem_cons.mp hq with z | z
    · rw [z]
      exact nw
    · exact W.new q (List.mem_cons_of_mem _ z)
/-- a new dict -/
theorem Wd.newd (W : Wd B F H M) {p : Addr} (h : H p = none) : Wd B F (upd H p (.dT [])) ((p, .dct []) :: M) := by
  obtain ⟨f1, f2, f3⟩ := W.fresh h
  have W2 := W.other (o := .dT []) h
  refine ⟨W2.fh, W2.f0, W2.fnew, W2.keep, W2.dom, fun q hq => ?_, ?_, fun q hq => ?_⟩
  · rcases List.mem_cons.mp hq with z | z
    · rw [z]
      exact ⟨f1, [], upd_same, .nil⟩
    · exact W2.mem q z
  · rw [List.map_cons]
    exact List.nodup_cons.mpr ⟨f3, W.nd⟩
  · rcases List.mem_cons.mp hq with z | z
    · rw [z]
      exact .inl f2
    · exact W2.new q z
/-- the first of the changing lists is frozen -/
theorem Wd.freeze {p : Addr} {ds : List PyData} (W : Wd B F H ((p, .lst (ds.map .pu)) :: M)) : ∃ F', Same F F' ∧ Wd B F' H M ∧ Dt F' (.ref p) (.list ds) := by
  obtain ⟨f1, vs, f2, f3⟩ := W.mem _ List.mem_cons_self
  have f1 : F p = none := f1
  have f2 : H p = some (.lst vs) := f2
  have nd : p ∉ M.map (·.1) ∧ (M.map (·.1)).Nodup := by
    have h := W.nd
    rw [List.map_cons] at h
    exact List.nodup_cons.mp h
  have sf : Same F (upd F p (.lst vs)) := fun a u e => by
    rw [upd_ne (ne_of_none e f1)]
    exact e
  have all : ∀ {vs : List V} {ds : List PyData}, Paired (VOk F) vs (ds.map .pu) → DtA F vs ds := by
    intro vs ds
    induction ds generalizing vs with
    | nil =>
      intro h
      cases h
      exact .nil
    | cons d ds ih =>
      intro h
      cases h with
      | cons a b => exact .cons a (ih b)
  refine ⟨upd F p (.lst vs), sf, ⟨fun a u e => ?_, fun a u e => sf a u (W.f0 a u e), fun a u e => ?_, W.keep, W.dom, fun q hq => ?_, nd.2, fun q hq => W.new q (List.mem_cons_of_mem _ hq)⟩, .lst upd_same (DtA.mono sf (all f3))⟩
  · by_cases z : a = p
    · rw [z, upd_same] at e
      rw [z, f2]
      exact e
    · rw [upd_ne z] at e
      exact W.fh a u e
  · by_cases z : a = p
    · rw [z]
      rcases W.new _ List.mem_cons_self with q | q
      · exact .inr (.inl q)
      · exact .inr (.inr q)
    · rw [upd_ne z] at e
      exact W.fnew a u e
  · obtain ⟨g1, g2⟩ := W.mem q (List.mem_cons_of_mem _ hq)
    refine ⟨?_, g2.mono sf fun u e => e⟩
    rw [upd_ne]
    · exact g1
    · intro z
      exact nd.1 (List.mem_map.mpr ⟨q, hq, z⟩)
end
end G

namespace G
open PySem PySem.Spec PyProof.Rows L2

/-! ### what is wanted, told of the machine's own runs -/
section
variable (X : Cx)
def wE (e : Expr) : TE := fun σ H Q => ∀ pins s, Inv X pins σ H s → wpAny (model X.prog X.w) X.A (eval e X.env) (EP X pins σ Q) X.xe s
def wT (e : Expr) : TT := fun σ H Q => ∀ pins s, Inv X pins σ H s → wpAny (model X.prog X.w) X.A (isTrue e X.env (eval e X.env)) (TP X pins σ Q) X.xe s
def wW (e : Expr) : TT := fun σ H Q => ∀ whole pins s, Inv X pins σ H s → wpAny (model X.prog X.w) X.A (isTrue e X.env whole) (TP X pins σ Q) X.xe s
def wA (es : List Expr) : TA := fun σ H Q => ∀ pos pins s, Inv X pins σ H s → wpAny (model X.prog X.w) X.A (spliced (backTo pos (starEach es X.env))) (AP X pins σ Q) X.xe s
def wK (kws : List Keyword) : TA := fun σ H Q => ∀ pos pins s, Inv X pins σ H s → wpAny (model X.prog X.w) X.A (evalAll ((backToKw pos (keywordEach kws X.env)).map (·.2))) (AP X pins σ Q) X.xe s
def wS (st : Stmt) : TS := fun D σ H => ∀ pins s, Inv X pins σ H s → wpAny (model X.prog X.w) X.A (exec st X.env) (SP X pins D) X.xe s
def wB (sts : List Stmt) : TS := fun D σ H => ∀ pins s, Inv X pins σ H s → wpAny (model X.prog X.w) X.A (execs sts X.env) (SP X pins D) X.xe s
def wG (tg : Expr) : TG := fun v σ H Q => ∀ pins s u, Inv X pins σ H s → RelV v u → wpAny (model X.prog X.w) X.A (assign tg X.env u) (fun _ s' => ∃ σ' H', Inv X pins σ' H' s' ∧ Q σ' H') X.xe s
def wGs (ts : List Expr) : TGs := fun vs σ H Q => ∀ pins s us, Inv X pins σ H s → Vals vs us → wpAny (model X.prog X.w) X.A (assignInOrder ((assignEach ts X.env).map (·.2)) us) (fun _ s' => ∃ σ' H', Inv X pins σ' H' s' ∧ Q σ' H') X.xe s
def wI (tg iter : Expr) : TI := fun σ H R => ∀ pins s, Inv X pins σ H s → wpAny (model X.prog X.w) X.A (eval iter X.env) (fun v s1 => wpAny (model X.prog X.w) X.A (pyIter v) (PIE X pins σ tg R) X.xe s1) X.xe s
def wO (o : Option Expr) : TO := fun σ H Q => ∀ t, PO X o t → t σ H Q → True
end
section
variable {X : Cx} {e : Expr} {es sts : List Expr} {st : Stmt} {bs : List Stmt} {σ : L2.St} {H : Hp}
theorem pE : PE X e (wE X e) := ⟨fun pins s _ _ _ I h => h pins s I⟩
theorem pT : PT X e (wT X e) := ⟨fun pins s _ _ _ I h => h pins s I⟩
theorem pW : PW X e (wW X e) := ⟨fun wh pins s _ _ _ I h => h wh pins s I⟩
theorem pA : PA X es (wA X es) := ⟨fun pos pins s _ _ _ I h => h pos pins s I⟩
theorem pK {kws : List Keyword} : PK X kws (wK X kws) := ⟨fun pos pins s _ _ _ I h => h pos pins s I⟩
theorem pS : PS X st (wS X st) := ⟨fun pins s _ _ _ I h => h pins s I⟩
theorem pB : PSs X bs (wB X bs) := ⟨fun pins s _ _ _ I h => h pins s I⟩
theorem pG {tg : Expr} : PG X tg (wG X tg) := ⟨fun pins s _ _ _ u _ I r h => h pins s u I r⟩
theorem pGs {ts : List Expr} : PGs X ts (wGs X ts) := ⟨fun pins s _ _ _ us _ I r h => h pins s us I r⟩
theorem pI {tg it : Expr} : PI X tg it (wI X tg it) := ⟨fun pins s _ _ _ I h => h pins s I⟩
theorem wE_of {t : TE} {Q : VK} (h : PE X e t) (q : t σ H Q) : wE X e σ H Q := fun pins s I => h.run pins s σ H Q I q
theorem wT_of {t : TT} {Q : Bool → Hp → Prop} (h : PT X e t) (q : t σ H Q) : wT X e σ H Q := fun pins s I => h.run pins s σ H Q I q
theorem wW_of {t : TT} {Q : Bool → Hp → Prop} (h : PW X e t) (q : t σ H Q) : wW X e σ H Q := fun wh pins s I => h.run wh pins s σ H Q I q
theorem wA_of {t : TA} {Q : List V → Hp → Prop} (h : PA X es t) (q : t σ H Q) : wA X es σ H Q := fun pos pins s I => h.run pos pins s σ H Q I q
theorem wK_of {t : TA} {kws : List Keyword} {Q : List V → Hp → Prop} (h : PK X kws t) (q : t σ H Q) : wK X kws σ H Q := fun pos pins s I => h.run pos pins s σ H Q I q
theorem wS_of {t : TS} {D : Ends} (h : PS X st t) (q : t D σ H) : wS X st D σ H := fun pins s I => h.run pins s σ H D I q
theorem wB_of {t : TS} {D : Ends} (h : PSs X bs t) (q : t D σ H) : wB X bs D σ H := fun pins s I => h.run pins s σ H D I q
theorem wG_of {t : TG} {tg : Expr} {v : V} {Q : L2.St → Hp → Prop} (h : PG X tg t) (q : t v σ H Q) : wG X tg v σ H Q := fun pins s u I r => h.run pins s σ H v u Q I r q
theorem wGs_of {t : TGs} {ts : List Expr} {vs : List V} {Q : L2.St → Hp → Prop} (h : PGs X ts t) (q : t vs σ H Q) : wGs X ts vs σ H Q := fun pins s us I r => h.run pins s σ H vs us Q I r q
theorem wI_of {t : TI} {tg it : Expr} {R : It → Hp → Prop} (h : PI X tg it t) (q : t σ H R) : wI X tg it σ H R := fun pins s I => h.run pins s σ H R I q
end

/-! ### what is wanted, told of data -/
abbrev Kn := SD → Mem → Prop
def Sat (B : Bs) (F : Hp) (Q : Kn) (Q' : VK) : Prop := ∀ r M v F' H', Q r M → Wd B F' H' M → Same F F' → VOk F' v r → Q' v H'
def SatT (B : Bs) (F : Hp) (Q : Bool → Mem → Prop) (Q' : Bool → Hp → Prop) : Prop := ∀ b M F' H', Q b M → Wd B F' H' M → Same F F' → Q' b H'
def SatA (B : Bs) (F : Hp) (Q : List SD → Mem → Prop) (Q' : List V → Hp → Prop) : Prop := ∀ rs M vs F' H', Q rs M → Wd B F' H' M → Same F F' → Paired (VOk F') vs rs → Q' vs H'
def SatN (B : Bs) (F : Hp) (Q : List SD → Mem → Prop) (Q' : L2.St → Hp → Prop) : Prop := ∀ ρ M σ F' H', Q ρ M → Wd B F' H' M → Same F F' → Paired (SOk F') σ ρ → Q' σ H'
structure GD where
  nx : List SD → Mem → Prop
  rt : Kn
  bk : List SD → Mem → Prop := fun _ _ => False
  ct : List SD → Mem → Prop := fun _ _ => False
structure SatS (B : Bs) (F : Hp) (D : GD) (D' : Ends) : Prop where
  nx : SatN B F D.nx D'.nx
  rt : Sat B F D.rt D'.rt
  bk : SatN B F D.bk D'.bk
  ct : SatN B F D.ct D'.ct
/-- the items that an iterator gives -/
structure GIt (F : Hp) (J : It) (n : Nat) (it : Nat → SD) : Prop where
  go : ∀ i F' H, Same F F' → Same F' H → i < n → J.go i H
  stop : ∀ F' H, Same F F' → Same F' H → J.stop n H
  yld : ∀ i B F' H M x H', i < n → Same F F' → Wd B F' H M → J.yld i H x H' → ∃ F2, Same F' F2 ∧ Wd B F2 H' M ∧ VOk F2 x (it i)
def SatI (B : Bs) (F : Hp) (R : Nat → (Nat → SD) → Mem → Prop) (R' : It → Hp → Prop) : Prop := ∀ n it M J F' H', R n it M → Wd B F' H' M → Same F F' → GIt F' J n it → R' J H'
section
variable (X : Cx) (ρ : List SD) (M : Mem)
structure GE (e : Expr) (Q : Kn) : Prop where
  run : ∀ B F H σ Q', Wd B F H M → Paired (SOk F) σ ρ → Sat B F Q Q' → wE X e σ H Q'
structure GT (e : Expr) (Q : Bool → Mem → Prop) : Prop where
  run : ∀ B F H σ Q', Wd B F H M → Paired (SOk F) σ ρ → SatT B F Q Q' → wT X e σ H Q'
structure GW (e : Expr) (Q : Bool → Mem → Prop) : Prop where
  run : ∀ B F H σ Q', Wd B F H M → Paired (SOk F) σ ρ → SatT B F Q Q' → wW X e σ H Q'
structure GA (es : List Expr) (Q : List SD → Mem → Prop) : Prop where
  run : ∀ B F H σ Q', Wd B F H M → Paired (SOk F) σ ρ → SatA B F Q Q' → wA X es σ H Q'
structure GK (kws : List Keyword) (Q : List SD → Mem → Prop) : Prop where
  run : ∀ B F H σ Q', Wd B F H M → Paired (SOk F) σ ρ → SatA B F Q Q' → wK X kws σ H Q'
structure GS (st : Stmt) (D : GD) : Prop where
  run : ∀ B F H σ D', Wd B F H M → Paired (SOk F) σ ρ → SatS B F D D' → wS X st D' σ H
structure GB (sts : List Stmt) (D : GD) : Prop where
  run : ∀ B F H σ D', Wd B F H M → Paired (SOk F) σ ρ → SatS B F D D' → wB X sts D' σ H
structure GG (tg : Expr) (r : SD) (Q : List SD → Mem → Prop) : Prop where
  run : ∀ B F H σ v Q', Wd B F H M → Paired (SOk F) σ ρ → VOk F v r → SatN B F Q Q' → wG X tg v σ H Q'
structure GGs (ts : List Expr) (rs : List SD) (Q : List SD → Mem → Prop) : Prop where
  run : ∀ B F H σ vs Q', Wd B F H M → Paired (SOk F) σ ρ → Paired (VOk F) vs rs → SatN B F Q Q' → wGs X ts vs σ H Q'
structure GI (tg iter : Expr) (R : Nat → (Nat → SD) → Mem → Prop) : Prop where
  run : ∀ B F H σ R', Wd B F H M → Paired (SOk F) σ ρ → SatI B F R R' → wI X tg iter σ H R'
end
section
variable {X : Cx} {ρ : List SD} {M : Mem}
instance {e : Expr} {Q : Kn} : CoeFun (GE X ρ M e Q) (fun _ => ∀ B F H σ Q', Wd B F H M → Paired (SOk F) σ ρ → Sat B F Q Q' → wE X e σ H Q') := ⟨GE.run⟩
instance {e : Expr} {Q : Bool → Mem → Prop} : CoeFun (GT X ρ M e Q) (fun _ => ∀ B F H σ Q', Wd B F H M → Paired (SOk F) σ ρ → SatT B F Q Q' → wT X e σ H Q') := ⟨GT.run⟩
instance {e : Expr} {Q : Bool → Mem → Prop} : CoeFun (GW X ρ M e Q) (fun _ => ∀ B F H σ Q', Wd B F H M → Paired (SOk F) σ ρ → SatT B F Q Q' → wW X e σ H Q') := ⟨GW.run⟩
instance {es : List Expr} {Q : List SD → Mem → Prop} : CoeFun (GA X ρ M es Q) (fun _ => ∀ B F H σ Q', Wd B F H M → Paired (SOk F) σ ρ → SatA B F Q Q' → wA X es σ H Q') := ⟨GA.run⟩
instance {es : List Keyword} {Q : List SD → Mem → Prop} : CoeFun (GK X ρ M es Q) (fun _ => ∀ B F H σ Q', Wd B F H M → Paired (SOk F) σ ρ → SatA B F Q Q' → wK X es σ H Q') := ⟨GK.run⟩
instance {st : Stmt} {D : GD} : CoeFun (GS X ρ M st D) (fun _ => ∀ B F H σ D', Wd B F H M → Paired (SOk F) σ ρ → SatS B F D D' → wS X st D' σ H) := ⟨GS.run⟩
instance {sts : List Stmt} {D : GD} : CoeFun (GB X ρ M sts D) (fun _ => ∀ B F H σ D', Wd B F H M → Paired (SOk F) σ ρ → SatS B F D D' → wB X sts D' σ H) := ⟨GB.run⟩
instance {tg : Expr} {r : SD} {Q : List SD → Mem → Prop} : CoeFun (GG X ρ M tg r Q) (fun _ => ∀ B F H σ v Q', Wd B F H M → Paired (SOk F) σ ρ → VOk F v r → SatN B F Q Q' → wG X tg v σ H Q') := ⟨GG.run⟩
instance {ts : List Expr} {rs : List SD} {Q : List SD → Mem → Prop} : CoeFun (GGs X ρ M ts rs Q) (fun _ => ∀ B F H σ vs Q', Wd B F H M → Paired (SOk F) σ ρ → Paired (VOk F) vs rs → SatN B F Q Q' → wGs X ts vs σ H Q') := ⟨GGs.run⟩
instance {tg it : Expr} {R : Nat → (Nat → SD) → Mem → Prop} : CoeFun (GI X ρ M tg it R) (fun _ => ∀ B F H σ R', Wd B F H M → Paired (SOk F) σ ρ → SatI B F R R' → wI X tg it σ H R') := ⟨GI.run⟩
end
section
variable {B : Bs} {F F' : Hp}
theorem Sat.mono {Q : Kn} {Q' : VK} (h : Sat B F Q Q') (e : Same F F') : Sat B F' Q Q' := fun r M v F2 H2 q W s vv => h r M v F2 H2 q W (e.trans s) vv
theorem SatT.mono {Q : Bool → Mem → Prop} {Q' : Bool → Hp → Prop} (h : SatT B F Q Q') (e : Same F F') : SatT B F' Q Q' := fun r M F2 H2 q W s => h r M F2 H2 q W (e.trans s)
theorem SatA.mono {Q : List SD → Mem → Prop} {Q' : List V → Hp → Prop} (h : SatA B F Q Q') (e : Same F F') : SatA B F' Q Q' := fun r M v F2 H2 q W s vv => h r M v F2 H2 q W (e.trans s) vv
theorem SatN.mono {Q : List SD → Mem → Prop} {Q' : L2.St → Hp → Prop} (h : SatN B F Q Q') (e : Same F F') : SatN B F' Q Q' := fun r M v F2 H2 q W s vv => h r M v F2 H2 q W (e.trans s) vv
theorem SatI.mono {Q : Nat → (Nat → SD) → Mem → Prop} {Q' : It → Hp → Prop} (h : SatI B F Q Q') (e : Same F F') : SatI B F' Q Q' := fun r it M J F2 H2 q W s vv => h r it M J F2 H2 q W (e.trans s) vv
theorem SatS.mono {D : GD} {D' : Ends} (h : SatS B F D D') (e : Same F F') : SatS B F' D D' := ⟨h.nx.mono e, h.rt.mono e, h.bk.mono e, h.ct.mono e⟩
end

/-! ### names, constants -/
section
variable {X : Cx} {ρ : List SD} {M : Mem} {Q : Kn} {QT : Bool → Mem → Prop} {QA : List SD → Mem → Prop} {pos : Pos}
theorem pget {F : Hp} {r : SD} : ∀ {σ : L2.St} {ρ : List SD} {i : Nat}, Paired (SOk F) σ ρ → ρ[i]? = some r → ∃ o, σ[i]? = some o ∧ SOk F o r
  | _, _, i, .nil, h => by simp at h
  | _, _, 0, .cons a b, h => by
    have e : _ = r := Option.some.inj h
    subst e
    exact ⟨_, rfl, a⟩
  | _, _, i + 1, .cons a b, h => by
    obtain ⟨o, e1, e2⟩ := pget (i := i) b (by simpa using h)
    exact ⟨o, by simpa using e1, e2⟩
theorem pset {F : Hp} {r : SD} {o : Option V} (h : SOk F o r) : ∀ {σ : L2.St} {ρ : List SD} (i : Nat), Paired (SOk F) σ ρ → Paired (SOk F) (σ.set i o) (ρ.set i r)
  | _, _, _, .nil => .nil
  | _, _, 0, .cons a b => .cons h b
  | _, _, i + 1, .cons a b => .cons a (pset h i b)
def SD.isV : SD → Bool
  | .un => false
  | _ => true
theorem SOk.isV {F : Hp} {o : Option V} {r : SD} (h : SOk F o r) (hr : r.isV = true) : ∃ v, o = some v ∧ VOk F v r := by
  cases o with
  | some v => exact ⟨v, rfl, h⟩
  | none =>
    cases r with
    | un => cases hr
    | pu d => cases h
    | rf v => cases h
    | pv v d => cases h
    | tp vs => cases h
    | ob C ds => cases h
    | sm p => cases h
/-- a name of the def, in place i -/
theorem gv (i : Nat) {x : Str} {r : SD} (hr : ρ[i]? = some r) (q : Q r M) (hv : r.isV = true := by rfl) (hN : X.N[i]? = some x := by rfl) (hvis : Vis X.env.scope x := by first | exact Or.inl rfl | exact Or.inr (Or.inl rfl) | exact Or.inr (Or.inr rfl))
    (hd : (x == ("__debug__" : Str)) = false := by decide) (hcd : (x == ("__classdict__" : Str)) = false := by decide) : GE X ρ M (.Name x pos) Q := .mk fun B F H σ Q' W S s => by
  obtain ⟨o, e1, e2⟩ := pget S hr
  obtain ⟨v, e3, e4⟩ := e2.isV hv
  subst e3
  exact wE_of (pe_var hN hvis hd hcd) ⟨v, e1, s r M v F H q W (Same.refl F) e4⟩
theorem gi {i : Int} {j : Nat} (q : Q (.pu (.int i)) M) : GE X ρ M (.Constant (.int i) j pos) Q := .mk fun B F H σ Q' W S s => wE_of pe_int (s _ M _ F H q W (Same.refl F) (.int i))
theorem gbl {b : Bool} {j : Nat} (q : Q (.pu (.bool b)) M) : GE X ρ M (.Constant (.bool b) j pos) Q := .mk fun B F H σ Q' W S s => wE_of pe_bl (s _ M _ F H q W (Same.refl F) (.bl b))
theorem gnon {j : Nat} (q : Q (.pu .none) M) : GE X ρ M (.Constant .none j pos) Q := .mk fun B F H σ Q' W S s => wE_of pe_non (s _ M _ F H q W (Same.refl F) .non)
theorem gstr {x : Str} {j : Nat} (q : Q (.pu (.str x)) M) : GE X ρ M (.Constant (.str x) j pos) Q := .mk fun B F H σ Q' W S s => wE_of pe_str (s _ M _ F H q W (Same.refl F) (.str x))
/-- a module's constant int -/
theorem gglob {x : Str} {i : Int} {t : Tok} (hm : X.mg x = some (.int i t)) (q : Q (.pu (.int i)) M) (hg : Gl X x := by rfl) (hd : (x == ("__debug__" : Str)) = false := by decide) : GE X ρ M (.Name x pos) Q :=
  .mk fun B F H σ Q' W S s => wE_of (pe_glob (v := V.int i) hg hm ⟨t, rfl⟩ hd) (s _ M _ F H q W (Same.refl F) (.int i))
/-- a function (a class) of the module as a value -/
theorem gfn {x : Str} {f : Addr} (hm : X.mg x = some (.ref f)) (q : Q (.rf (.ref f)) M) (hg : Gl X x := by rfl) (hd : (x == ("__debug__" : Str)) = false := by decide) : GE X ρ M (.Name x pos) Q :=
  .mk fun B F H σ Q' W S s => wE_of (pe_glob (v := V.ref f) hg hm rfl hd) (s _ M _ F H q W (Same.refl F) rfl)
/-- a built-in class as a value -/
theorem gty {x : Str} {n : String} (hm : X.mg x = none) (hv : bootBuiltins x = some (.type n)) (q : Q (.rf (.ty n)) M) (hg : Gl X x := by rfl) (hn : x ≠ "__name__" := by decide) (hd : (x == ("__debug__" : Str)) = false := by decide) : GE X ρ M (.Name x pos) Q :=
  .mk fun B F H σ Q' W S s => wE_of (pe_bltn (v := V.ty n) hg hm hv rfl hn hd) (s _ M _ F H q W (Same.refl F) rfl)

/-! ### a wider wish; freezing -/
theorem GE.mono {e : Expr} {Q1 : Kn} (h : GE X ρ M e Q1) (hq : ∀ r M', Q1 r M' → Q r M') : GE X ρ M e Q := .mk fun B F H σ Q' W S s => h B F H σ Q' W S fun r M' v F' H' q W' s' vv => s r M' v F' H' (hq _ _ q) W' s' vv
theorem GT.mono {e : Expr} {Q1 : Bool → Mem → Prop} (h : GT X ρ M e Q1) (hq : ∀ r M', Q1 r M' → QT r M') : GT X ρ M e QT := .mk fun B F H σ Q' W S s => h B F H σ Q' W S fun r M' F' H' q W' s' => s r M' F' H' (hq _ _ q) W' s'
/-- the value is a new list: it is frozen -/
theorem gz {e : Expr} (h : GE X ρ M e fun r M' => ∃ l ds M2, r = .rf (.ref l) ∧ M' = (l, .lst (ds.map .pu)) :: M2 ∧ Q (.pu (.list ds)) M2) : GE X ρ M e Q := .mk fun B F H σ Q' W S s => h B F H σ Q' W S fun r M' v F' H' q W' s' vv => by
  obtain ⟨l, ds, M2, rfl, rfl, q⟩ := q
  obtain rfl : v = .ref l := vv
  obtain ⟨F2, s2, W2, d2⟩ := W'.freeze
  exact s _ M2 _ F2 H' q W2 (s'.trans s2) d2
/-- of the changing lists some are forgotten -/
theorem gforget {e : Expr} {M2 : Mem} (hs : List.Sublist M2 M) (h : GE X ρ M2 e Q) : GE X ρ M e Q := .mk fun B F H σ Q' W S s => h B F H σ Q' (W.sub hs) S s
theorem gbforget {e : List Stmt} {M2 : Mem} {D : GD} (hs : List.Sublist M2 M) (h : GB X ρ M2 e D) : GB X ρ M e D := .mk fun B F H σ Q' W S s => h B F H σ Q' (W.sub hs) S s
theorem gbperm {e : List Stmt} {M2 : Mem} {D : GD} (hs : M.Perm M2) (h : GB X ρ M2 e D) : GB X ρ M e D := .mk fun B F H σ Q' W S s => h B F H σ Q' (W.perm hs) S s
theorem geperm {e : Expr} {M2 : Mem} (hs : M.Perm M2) (h : GE X ρ M2 e Q) : GE X ρ M e Q := .mk fun B F H σ Q' W S s => h B F H σ Q' (W.perm hs) S s
/-- what is known of a place is forgotten -/
theorem SOk.un {F : Hp} {o : Option V} : SOk F o .un := by cases o <;> trivial

/-! ### operators -/
/-- two results through a rule -/
def RR (X : Cx) (r : R2) (x y : SD) (M : Mem) (Q : Kn) : Prop := ∀ B F H v w Q', Wd B F H M → VOk F v x → VOk F w y → Sat B F Q Q' → r v w H Q'
def RU (X : Cx) (r : V → Hp → VK → Prop) (x : SD) (M : Mem) (Q : Kn) : Prop := ∀ B F H v Q', Wd B F H M → VOk F v x → Sat B F Q Q' → r v H Q'
def RC (X : Cx) (r : List V → Hp → VK → Prop) (xs : List SD) (M : Mem) (Q : Kn) : Prop := ∀ B F H vs Q', Wd B F H M → Paired (VOk F) vs xs → Sat B F Q Q' → r vs H Q'
variable {a b c : Expr}
theorem ge2 {r : R2} {op : Operator} (ho : OpR X (binaryOp op) r) (h : GE X ρ M a fun x M1 => GE X ρ M1 b fun y M2 => RR X r x y M2 Q) : GE X ρ M (.BinOp a op b pos) Q := .mk fun B F H σ Q' W S s => by
  refine wE_of (pe_op ho pE pE) (h B F H σ _ W S fun x M1 v F1 H1 hx W1 s1 vx => ?_)
  refine hx B F1 H1 σ _ W1 (pMono s1 S) fun y M2 w F2 H2 hy W2 s2 wy => ?_
  exact hy B F2 H2 v w Q' W2 (vx.mono s2) wy (s.mono (s1.trans s2))
theorem ge1 {r : V → Hp → VK → Prop} {op : UnaryOp} (ho : UnR X (unaryOp op) r) (h : GE X ρ M a fun x M1 => RU X r x M1 Q) : GE X ρ M (.UnaryOp op a pos) Q := .mk fun B F H σ Q' W S s => by
  refine wE_of (pe_un ho pE) (h B F H σ _ W S fun x M1 v F1 H1 hx W1 s1 vx => ?_)
  exact hx B F1 H1 v Q' W1 vx (s.mono s1)
theorem geC {r : R2} {op : CmpOp} (ho : OpR X (compareOp op) r) (hm : behindInMarks op b = false) (h : GE X ρ M a fun x M1 => GE X ρ M1 b fun y M2 => RR X r x y M2 Q) : GE X ρ M (.Compare a [op] [b] pos) Q := .mk fun B F H σ Q' W S s => by
  refine wE_of (pe_cmpR ho pE pE hm) (h B F H σ _ W S fun x M1 v F1 H1 hx W1 s1 vx => ?_)
  refine hx B F1 H1 σ _ W1 (pMono s1 S) fun y M2 w F2 H2 hy W2 s2 wy => ?_
  exact hy B F2 H2 v w Q' W2 (vx.mono s2) wy (s.mono (s1.trans s2))
/-- the wish of a test, as a wish of a truth value -/
def bo (Q : Bool → Mem → Prop) : Kn := fun r M => ∃ k, r = .pu (.bool k) ∧ Q k M
theorem satB {B : Bs} {F : Hp} {Q' : Bool → Hp → Prop} (s : SatT B F QT Q') : Sat B F (bo QT) fun v H' => ∃ k, v = .bl k ∧ Q' k H' := fun r M v F' H' q W s' vv => by
  obtain ⟨k, rfl, q⟩ := q
  have vv : Dt F' v (.bool k) := vv
  cases vv
  exact ⟨k, rfl, s k M F' H' q W s'⟩
theorem gtC {r : R2} {op : CmpOp} (ho : OpR X (compareOp op) r) (hm : behindInMarks op b = false) (h : GE X ρ M a fun x M1 => GE X ρ M1 b fun y M2 => RR X r x y M2 (bo QT)) : GT X ρ M (.Compare a [op] [b] pos) QT := .mk fun B F H σ Q' W S s => by
  refine wT_of (pt_cmpR ho pE pE hm) (h B F H σ _ W S fun x M1 v F1 H1 hx W1 s1 vx => ?_)
  refine hx B F1 H1 σ _ W1 (pMono s1 S) fun y M2 w F2 H2 hy W2 s2 wy => ?_
  exact hy B F2 H2 v w _ W2 (vx.mono s2) wy (satB (s.mono (s1.trans s2)))
/-- a < b < c -/
theorem geCC {r r' : R2} {op op' : CmpOp} (ho : OpR X (compareOp op) r) (ho' : OpR X (compareOp op') r') (hm : lastMarks [op, op'] [b, c] = false)
    (h : GE X ρ M a fun x M1 => GE X ρ M1 b fun y M2 => RR X r x y M2 fun z M3 => ∃ k, z = .pu (.bool k) ∧ if k = true then GE X ρ M3 c fun w M4 => RR X r' y w M4 Q else Q (.pu (.bool false)) M3) : GE X ρ M (.Compare a [op, op'] [b, c] pos) Q := .mk fun B F H σ Q' W S s => by
  refine wE_of (pe_chain ho ho' pE pE pE hm) (h B F H σ _ W S fun x M1 v F1 H1 hx W1 s1 vx => ?_)
  refine hx B F1 H1 σ _ W1 (pMono s1 S) fun y M2 w F2 H2 hy W2 s2 wy => ?_
  refine hy B F2 H2 v w _ W2 (vx.mono s2) wy fun z M3 z' F3 H3 hz W3 s3 vz => ?_
  obtain ⟨k, rfl, hz⟩ := hz
  have vz : Dt F3 z' (.bool k) := vz
  cases vz
  refine ⟨k, rfl, ?_⟩
  cases k with
  | true =>
    refine iteT ?_
    refine (show GE X ρ M3 c _ from hz) B F3 H3 σ _ W3 (pMono ((s1.trans s2).trans s3) S) fun u M4 u' F4 H4 hu W4 s4 vu => ?_
    exact hu B F4 H4 w u' Q' W4 ((wy.mono s3).mono s4) vu (s.mono (((s1.trans s2).trans s3).trans s4))
  | false =>
    refine iteF ?_
    exact s _ M3 _ F3 H3 hz W3 ((s1.trans s2).trans s3) (.bl false)
theorem gtCC {r r' : R2} {op op' : CmpOp} (ho : OpR X (compareOp op) r) (ho' : OpR X (compareOp op') r') (hm : lastMarks [op, op'] [b, c] = false)
    (h : GE X ρ M a fun x M1 => GE X ρ M1 b fun y M2 => RR X r x y M2 fun z M3 => ∃ k, z = .pu (.bool k) ∧ if k = true then GE X ρ M3 c fun w M4 => RR X r' y w M4 (bo QT) else QT false M3) : GT X ρ M (.Compare a [op, op'] [b, c] pos) QT := .mk fun B F H σ Q' W S s => by
  refine wT_of (pt_chain ho ho' pE pE pE hm) (h B F H σ _ W S fun x M1 v F1 H1 hx W1 s1 vx => ?_)
  refine hx B F1 H1 σ _ W1 (pMono s1 S) fun y M2 w F2 H2 hy W2 s2 wy => ?_
  refine hy B F2 H2 v w _ W2 (vx.mono s2) wy fun z M3 z' F3 H3 hz W3 s3 vz => ?_
  obtain ⟨k, rfl, hz⟩ := hz
  have vz : Dt F3 z' (.bool k) := vz
  cases vz
  refine ⟨k, rfl, ?_⟩
  cases k with
  | true =>
    refine iteT ?_
    refine (show GE X ρ M3 c _ from hz) B F3 H3 σ _ W3 (pMono ((s1.trans s2).trans s3) S) fun u M4 u' F4 H4 hu W4 s4 vu => ?_
    exact hu B F4 H4 w u' _ W4 ((wy.mono s3).mono s4) vu (satB (s.mono (((s1.trans s2).trans s3).trans s4)))
  | false =>
    refine iteF ?_
    exact ⟨_, rfl, s _ M3 F3 H3 hz W3 ((s1.trans s2).trans s3)⟩
end
end G

namespace G
open PySem PySem.Spec PyProof.Rows L2
section
variable {X : Cx} {ρ : List SD} {M : Mem} {Q : Kn} {QT : Bool → Mem → Prop} {QA : List SD → Mem → Prop} {pos : Pos} {a b c e : Expr} {es : List Expr}

/-! ### ints -/
theorem rI_ {C : Int → Int → Prop} {g : Int → Int → Int} {i j : Int} (hc : C i j) (q : Q (.pu (.int (g i j))) M) : RR X (rI C fun i j => .int (g i j)) (.pu (.int i)) (.pu (.int j)) M Q := fun B F H v w Q' W hv hw s => by
  have hv : Dt F v (.int i) := hv
  have hw : Dt F w (.int j) := hw
  cases hv
  cases hw
  exact ⟨i, j, rfl, rfl, hc, s _ M _ F H q W (Same.refl F) (.int _)⟩
theorem rI0_ {g : Int → Int → Int} {i j : Int} (q : Q (.pu (.int (g i j))) M) : RR X (rI0 fun i j => .int (g i j)) (.pu (.int i)) (.pu (.int j)) M Q := fun B F H v w Q' W hv hw s => by
  have hv : Dt F v (.int i) := hv
  have hw : Dt F w (.int j) := hw
  cases hv
  cases hw
  exact ⟨i, j, rfl, rfl, s _ M _ F H q W (Same.refl F) (.int _)⟩
theorem rB0_ {g : Int → Int → Bool} {i j : Int} (q : Q (.pu (.bool (g i j))) M) : RR X (rI0 fun i j => .bl (g i j)) (.pu (.int i)) (.pu (.int j)) M Q := fun B F H v w Q' W hv hw s => by
  have hv : Dt F v (.int i) := hv
  have hw : Dt F w (.int j) := hw
  cases hv
  cases hw
  exact ⟨i, j, rfl, rfl, s _ M _ F H q W (Same.refl F) (.bl _)⟩
/-- two ints come -/
def i2 (k : Int → Int → Mem → Prop) (X : Cx) (ρ : List SD) (b : Expr) : Kn := fun x M1 => ∃ i, x = .pu (.int i) ∧ GE X ρ M1 b fun y M2 => ∃ j, y = .pu (.int j) ∧ k i j M2
theorem gadd (h : GE X ρ M a (i2 (fun i j M2 => Q (.pu (.int (i + j))) M2) X ρ b)) : GE X ρ M (.BinOp a .Add b pos) Q := ge2 op_add (h.mono fun x M1 ⟨i, e, h⟩ => e ▸ h.mono fun y M2 ⟨j, e, h⟩ => e ▸ rI0_ h)
theorem gsub (h : GE X ρ M a (i2 (fun i j M2 => Q (.pu (.int (i - j))) M2) X ρ b)) : GE X ρ M (.BinOp a .Sub b pos) Q := ge2 op_sub (h.mono fun x M1 ⟨i, e, h⟩ => e ▸ h.mono fun y M2 ⟨j, e, h⟩ => e ▸ rI0_ h)
theorem gmul (h : GE X ρ M a (i2 (fun i j M2 => CMul i j ∧ Q (.pu (.int (i * j))) M2) X ρ b)) : GE X ρ M (.BinOp a .Mult b pos) Q := ge2 op_mul (h.mono fun x M1 ⟨i, e, h⟩ => e ▸ h.mono fun y M2 ⟨j, e, h⟩ => e ▸ rI_ h.1 h.2)
theorem gdiv (h : GE X ρ M a (i2 (fun i j M2 => CDiv i j ∧ Q (.pu (.int (i / j))) M2) X ρ b)) : GE X ρ M (.BinOp a .FloorDiv b pos) Q := ge2 op_fdiv (h.mono fun x M1 ⟨i, e, h⟩ => e ▸ h.mono fun y M2 ⟨j, e, h⟩ => e ▸ rI_ h.1 h.2)
theorem gmod (h : GE X ρ M a (i2 (fun i j M2 => 0 < j ∧ Q (.pu (.int (i % j))) M2) X ρ b)) : GE X ρ M (.BinOp a .Mod b pos) Q := ge2 op_mod (h.mono fun x M1 ⟨i, e, h⟩ => e ▸ h.mono fun y M2 ⟨j, e, h⟩ => e ▸ rI_ h.1 h.2)
theorem gpow (h : GE X ρ M a (i2 (fun i j M2 => CPow i j ∧ Q (.pu (.int (i ^ j.toNat))) M2) X ρ b)) : GE X ρ M (.BinOp a .Pow b pos) Q := ge2 op_pow (h.mono fun x M1 ⟨i, e, h⟩ => e ▸ h.mono fun y M2 ⟨j, e, h⟩ => e ▸ rI_ h.1 h.2)
theorem gneg (h : GE X ρ M a fun x M1 => ∃ i, x = .pu (.int i) ∧ Q (.pu (.int (-i))) M1) : GE X ρ M (.UnaryOp .USub a pos) Q := ge1 un_neg (h.mono fun x M1 ⟨i, e, h⟩ => e ▸ fun B F H v Q' W hv s => by
  have hv : Dt F v (.int i) := hv
  cases hv
  exact ⟨i, rfl, s _ M1 _ F H h W (Same.refl F) (.int _)⟩)
/-- comparisons of ints: as a value, as a test -/
theorem glt (h : GE X ρ M a (i2 (fun i j M2 => Q (.pu (.bool (decide (i < j)))) M2) X ρ b)) : GE X ρ M (.Compare a [.Lt] [b] pos) Q := geC op_lt (nomark _) (h.mono fun x M1 ⟨i, e, h⟩ => e ▸ h.mono fun y M2 ⟨j, e, h⟩ => e ▸ rB0_ h)
theorem gle (h : GE X ρ M a (i2 (fun i j M2 => Q (.pu (.bool (decide (i ≤ j)))) M2) X ρ b)) : GE X ρ M (.Compare a [.LtE] [b] pos) Q := geC op_le (nomark _) (h.mono fun x M1 ⟨i, e, h⟩ => e ▸ h.mono fun y M2 ⟨j, e, h⟩ => e ▸ rB0_ h)
theorem ggt (h : GE X ρ M a (i2 (fun i j M2 => Q (.pu (.bool (decide (j < i)))) M2) X ρ b)) : GE X ρ M (.Compare a [.Gt] [b] pos) Q := geC op_gt (nomark _) (h.mono fun x M1 ⟨i, e, h⟩ => e ▸ h.mono fun y M2 ⟨j, e, h⟩ => e ▸ rB0_ h)
theorem gge (h : GE X ρ M a (i2 (fun i j M2 => Q (.pu (.bool (decide (j ≤ i)))) M2) X ρ b)) : GE X ρ M (.Compare a [.GtE] [b] pos) Q := geC op_ge (nomark _) (h.mono fun x M1 ⟨i, e, h⟩ => e ▸ h.mono fun y M2 ⟨j, e, h⟩ => e ▸ rB0_ h)
theorem tlt (h : GE X ρ M a (i2 (fun i j M2 => QT (decide (i < j)) M2) X ρ b)) : GT X ρ M (.Compare a [.Lt] [b] pos) QT := gtC op_lt (nomark _) (h.mono fun x M1 ⟨i, e, h⟩ => e ▸ h.mono fun y M2 ⟨j, e, h⟩ => e ▸ rB0_ ⟨_, rfl, h⟩)
theorem tle (h : GE X ρ M a (i2 (fun i j M2 => QT (decide (i ≤ j)) M2) X ρ b)) : GT X ρ M (.Compare a [.LtE] [b] pos) QT := gtC op_le (nomark _) (h.mono fun x M1 ⟨i, e, h⟩ => e ▸ h.mono fun y M2 ⟨j, e, h⟩ => e ▸ rB0_ ⟨_, rfl, h⟩)
theorem tgt (h : GE X ρ M a (i2 (fun i j M2 => QT (decide (j < i)) M2) X ρ b)) : GT X ρ M (.Compare a [.Gt] [b] pos) QT := gtC op_gt (nomark _) (h.mono fun x M1 ⟨i, e, h⟩ => e ▸ h.mono fun y M2 ⟨j, e, h⟩ => e ▸ rB0_ ⟨_, rfl, h⟩)
theorem tge (h : GE X ρ M a (i2 (fun i j M2 => QT (decide (j ≤ i)) M2) X ρ b)) : GT X ρ M (.Compare a [.GtE] [b] pos) QT := gtC op_ge (nomark _) (h.mono fun x M1 ⟨i, e, h⟩ => e ▸ h.mono fun y M2 ⟨j, e, h⟩ => e ▸ rB0_ ⟨_, rfl, h⟩)
/-- a < b < c, a <= b <= c, a <= b < c: ints -/
theorem rr2 {op : CmpOp} {g : Int → Int → Bool} {i j : Int} {P : Kn} (q : P (.pu (.bool (g i j))) M) : RR X (rI0 fun i j => .bl (g i j)) (.pu (.int i)) (.pu (.int j)) M P := rB0_ q
def i3 (op op' : Int → Int → Bool) (k : Bool → Mem → Prop) (X : Cx) (ρ : List SD) (b c : Expr) : Kn := fun x M1 => ∃ i, x = .pu (.int i) ∧ GE X ρ M1 b fun y M2 => ∃ j, y = .pu (.int j) ∧
  if op i j = true then GE X ρ M2 c fun z M3 => ∃ l, z = .pu (.int l) ∧ k (op' j l) M3 else k false M2
theorem chain_ {op op' : CmpOp} {g g' : Int → Int → Bool} (ho : OpR X (compareOp op) (rI0 fun i j => .bl (g i j))) (ho' : OpR X (compareOp op') (rI0 fun i j => .bl (g' i j))) (hm : lastMarks [op, op'] [b, c] = false)
    (h : GE X ρ M a (i3 g g' QT X ρ b c)) : GT X ρ M (.Compare a [op, op'] [b, c] pos) QT := gtCC ho ho' hm (h.mono fun x M1 ⟨i, e, h⟩ => e ▸ h.mono fun y M2 ⟨j, e, h⟩ => e ▸ rB0_ ⟨_, rfl, by
  cases hg : g i j with
  | true =>
    rw [hg, if_pos rfl] at h
    rw [if_pos rfl]
    exact h.mono fun z M3 ⟨l, e, h⟩ => e ▸ rB0_ ⟨_, rfl, h⟩
  | false =>
    rw [hg, if_neg Bool.false_ne_true] at h
    rw [if_neg Bool.false_ne_true]
    exact h⟩)
theorem chainE_ {op op' : CmpOp} {g g' : Int → Int → Bool} (ho : OpR X (compareOp op) (rI0 fun i j => .bl (g i j))) (ho' : OpR X (compareOp op') (rI0 fun i j => .bl (g' i j))) (hm : lastMarks [op, op'] [b, c] = false)
    (h : GE X ρ M a (i3 g g' (fun k M' => Q (.pu (.bool k)) M') X ρ b c)) : GE X ρ M (.Compare a [op, op'] [b, c] pos) Q := geCC ho ho' hm (h.mono fun x M1 ⟨i, e, h⟩ => e ▸ h.mono fun y M2 ⟨j, e, h⟩ => e ▸ rB0_ ⟨_, rfl, by
  cases hg : g i j with
  | true =>
    rw [hg, if_pos rfl] at h
    rw [if_pos rfl]
    exact h.mono fun z M3 ⟨l, e, h⟩ => e ▸ rB0_ h
  | false =>
    rw [hg, if_neg Bool.false_ne_true] at h
    rw [if_neg Bool.false_ne_true]
    exact h⟩)
theorem tltlt (h : GE X ρ M a (i3 (fun i j => decide (i < j)) (fun i j => decide (i < j)) QT X ρ b c)) (hm : lastMarks [.Lt, .Lt] [b, c] = false := by with_unfolding_all rfl) : GT X ρ M (.Compare a [.Lt, .Lt] [b, c] pos) QT := chain_ op_lt op_lt hm h
theorem tlele (h : GE X ρ M a (i3 (fun i j => decide (i ≤ j)) (fun i j => decide (i ≤ j)) QT X ρ b c)) (hm : lastMarks [.LtE, .LtE] [b, c] = false := by with_unfolding_all rfl) : GT X ρ M (.Compare a [.LtE, .LtE] [b, c] pos) QT := chain_ op_le op_le hm h
theorem tlelt (h : GE X ρ M a (i3 (fun i j => decide (i ≤ j)) (fun i j => decide (i < j)) QT X ρ b c)) (hm : lastMarks [.LtE, .Lt] [b, c] = false := by with_unfolding_all rfl) : GT X ρ M (.Compare a [.LtE, .Lt] [b, c] pos) QT := chain_ op_le op_lt hm h
theorem glele (h : GE X ρ M a (i3 (fun i j => decide (i ≤ j)) (fun i j => decide (i ≤ j)) (fun k M' => Q (.pu (.bool k)) M') X ρ b c)) (hm : lastMarks [.LtE, .LtE] [b, c] = false := by with_unfolding_all rfl) : GE X ρ M (.Compare a [.LtE, .LtE] [b, c] pos) Q := chainE_ op_le op_le hm h
theorem glelt (h : GE X ρ M a (i3 (fun i j => decide (i ≤ j)) (fun i j => decide (i < j)) (fun k M' => Q (.pu (.bool k)) M') X ρ b c)) (hm : lastMarks [.LtE, .Lt] [b, c] = false := by with_unfolding_all rfl) : GE X ρ M (.Compare a [.LtE, .Lt] [b, c] pos) Q := chainE_ op_le op_lt hm h

/-! ### data as a whole: == and !=, in -/
/-- what a result is as data, by the changing lists -/
inductive MD (M : Mem) : SD → PyData → Prop
  | pu (d : PyData) : MD M (.pu d) d
  | mem {l : Addr} {xs : List SD} {ds : List PyData} : (l, MO.lst xs) ∈ M → Paired (MD M) xs ds → MD M (.rf (.ref l)) (.list ds)
theorem MD.dt {B : Bs} {F H : Hp} (W : Wd B F H M) : ∀ {r : SD} {d : PyData} {v : V}, MD M r d → VOk F v r → Dt H v d := by
  intro r d v h
  refine fun hv => (?_ : ∀ v, VOk F v r → Dt H v d) v hv
  refine MD.rec (M := M) (motive_1 := fun r d _ => ∀ v, VOk F v r → Dt H v d) (motive_2 := fun xs ds _ => ∀ vs, Paired (VOk F) vs xs → DtA H vs ds) ?_ ?_ ?_ ?_ h
  · intro d v hv
    exact Dt.mono W.fh hv
  · intro l xs ds hm _ ih v hv
    obtain rfl : v = .ref l := hv
    obtain ⟨f1, vs, f2, f3⟩ := W.mem _ hm
    exact .lst f2 (ih vs f3)
  · intro vs hv
    cases hv
    exact .nil
  · intro x d xs ds _ _ i1 i2 vs hv
    cases hv with
    | cons a b => exact .cons (i1 _ a) (i2 _ b)
theorem geq {d d' : PyData} {x y : SD} (hu : X.A.units + 64 < cLine) (hx : MD M x d) (hy : MD M y d') (h1 : SeqAt.shaped d = true) (h2 : SeqAt.shaped d' = true) (q : Q (.pu (.bool (PyData.eqv d d'))) M) : RR X (rEqD X.K) x y M Q :=
  fun B F H v w Q' W hv hw s => ⟨d, d', (hx.dt W hv).dp (shaped_nd h1), (hy.dt W hw).dp (shaped_nd h2), h1, h2, s _ M _ F H q W (Same.refl F) (.bl _)⟩
theorem gne {d d' : PyData} {x y : SD} (hu : X.A.units + 64 < cLine) (hx : MD M x d) (hy : MD M y d') (h1 : SeqAt.shaped d = true) (h2 : SeqAt.shaped d' = true) (q : Q (.pu (.bool (!PyData.eqv d d'))) M) : RR X (rNeD X.K) x y M Q :=
  fun B F H v w Q' W hv hw s => ⟨d, d', (hx.dt W hv).dp (shaped_nd h1), (hy.dt W hw).dp (shaped_nd h2), h1, h2, s _ M _ F H q W (Same.refl F) (.bl _)⟩
/-- == of ints, texts, truth values -/
def scalD : PyData → V
  | .none => .non
  | .bool b => .bl b
  | .int i => .int i
  | .str x => .str x
  | _ => .non
def isScal : PyData → Bool
  | .bool _ => true
  | .int _ => true
  | .str _ => true
  | _ => false
theorem scal_of {F : Hp} {v : V} {d : PyData} (h : Dt F v d) (hs : isScal d = true) : v = scalD d := by
  cases h <;> first | rfl | cases hs
/-- a == b, of scalars of one kind -/
theorem rEq_ {d d' : PyData} (h1 : isScal d = true) (h2 : isScal d' = true) (hs : scal (scalD d) (scalD d') = true) (q : Q (.pu (.bool (decide (scalD d = scalD d')))) M) : RR X rEq (.pu d) (.pu d') M Q := fun B F H v w Q' W hv hw s => by
  rw [scal_of hv h1, scal_of hw h2]
  exact ⟨hs, s _ M _ F H q W (Same.refl F) (.bl _)⟩
theorem rNe_ {d d' : PyData} (h1 : isScal d = true) (h2 : isScal d' = true) (hs : scal (scalD d) (scalD d') = true) (q : Q (.pu (.bool (!decide (scalD d = scalD d')))) M) : RR X rNe (.pu d) (.pu d') M Q := fun B F H v w Q' W hv hw s => by
  rw [scal_of hv h1, scal_of hw h2]
  exact ⟨hs, s _ M _ F H q W (Same.refl F) (.bl _)⟩
theorem geqI (h : GE X ρ M a (i2 (fun i j M2 => Q (.pu (.bool (decide (i = j)))) M2) X ρ b)) : GE X ρ M (.Compare a [.Eq] [b] pos) Q := geC op_eq (nomark _) (h.mono fun x M1 ⟨i, e, h⟩ => e ▸ h.mono fun y M2 ⟨j, e, h⟩ => e ▸ rEq_ rfl rfl rfl (by
  show Q (.pu (.bool (decide (V.int i = V.int j)))) M2
  rw [dec_int, Bool.beq_eq_decide_eq]
  exact h))
theorem teqI (h : GE X ρ M a (i2 (fun i j M2 => QT (decide (i = j)) M2) X ρ b)) : GT X ρ M (.Compare a [.Eq] [b] pos) QT := gtC op_eq (nomark _) (h.mono fun x M1 ⟨i, e, h⟩ => e ▸ h.mono fun y M2 ⟨j, e, h⟩ => e ▸ rEq_ rfl rfl rfl (by
  show bo QT (.pu (.bool (decide (V.int i = V.int j)))) M2
  rw [dec_int, Bool.beq_eq_decide_eq]
  exact ⟨_, rfl, h⟩))
theorem gneI (h : GE X ρ M a (i2 (fun i j M2 => Q (.pu (.bool (!decide (i = j)))) M2) X ρ b)) : GE X ρ M (.Compare a [.NotEq] [b] pos) Q := geC op_ne (nomark _) (h.mono fun x M1 ⟨i, e, h⟩ => e ▸ h.mono fun y M2 ⟨j, e, h⟩ => e ▸ rNe_ rfl rfl rfl (by
  show Q (.pu (.bool (!decide (V.int i = V.int j)))) M2
  rw [dec_int, Bool.beq_eq_decide_eq]
  exact h))
theorem tneI (h : GE X ρ M a (i2 (fun i j M2 => QT (!decide (i = j)) M2) X ρ b)) : GT X ρ M (.Compare a [.NotEq] [b] pos) QT := gtC op_ne (nomark _) (h.mono fun x M1 ⟨i, e, h⟩ => e ▸ h.mono fun y M2 ⟨j, e, h⟩ => e ▸ rNe_ rfl rfl rfl (by
  show bo QT (.pu (.bool (!decide (V.int i = V.int j)))) M2
  rw [dec_int, Bool.beq_eq_decide_eq]
  exact ⟨_, rfl, h⟩))
/-- texts -/
def s2 (k : Str → Str → Mem → Prop) (X : Cx) (ρ : List SD) (b : Expr) : Kn := fun x M1 => ∃ i, x = .pu (.str i) ∧ GE X ρ M1 b fun y M2 => ∃ j, y = .pu (.str j) ∧ k i j M2
theorem teqS (h : GE X ρ M a (s2 (fun i j M2 => QT (decide (i = j)) M2) X ρ b)) : GT X ρ M (.Compare a [.Eq] [b] pos) QT := gtC op_eq (nomark _) (h.mono fun x M1 ⟨i, e, h⟩ => e ▸ h.mono fun y M2 ⟨j, e, h⟩ => e ▸ rEq_ rfl rfl rfl (by
  show bo QT (.pu (.bool (decide (V.str i = V.str j)))) M2
  have e : decide (V.str i = V.str j) = decide (i = j) := by simp
  rw [e]
  exact ⟨_, rfl, h⟩))
theorem tneS (h : GE X ρ M a (s2 (fun i j M2 => QT (!decide (i = j)) M2) X ρ b)) : GT X ρ M (.Compare a [.NotEq] [b] pos) QT := gtC op_ne (nomark _) (h.mono fun x M1 ⟨i, e, h⟩ => e ▸ h.mono fun y M2 ⟨j, e, h⟩ => e ▸ rNe_ rfl rfl rfl (by
  show bo QT (.pu (.bool (!decide (V.str i = V.str j)))) M2
  have e : decide (V.str i = V.str j) = decide (i = j) := by simp
  rw [e]
  exact ⟨_, rfl, h⟩))
theorem geqS (h : GE X ρ M a (s2 (fun i j M2 => Q (.pu (.bool (decide (i = j)))) M2) X ρ b)) : GE X ρ M (.Compare a [.Eq] [b] pos) Q := geC op_eq (nomark _) (h.mono fun x M1 ⟨i, e, h⟩ => e ▸ h.mono fun y M2 ⟨j, e, h⟩ => e ▸ rEq_ rfl rfl rfl (by
  show Q (.pu (.bool (decide (V.str i = V.str j)))) M2
  have e : decide (V.str i = V.str j) = decide (i = j) := by simp
  rw [e]
  exact h))
/-- data at any depth -/
def dd (k : PyData → PyData → Mem → Prop) (X : Cx) (ρ : List SD) (b : Expr) : Kn := fun x M1 => ∃ d, MD M1 x d ∧ SeqAt.shaped d = true ∧ GE X ρ M1 b fun y M2 => ∃ d', MD M2 x d ∧ MD M2 y d' ∧ SeqAt.shaped d' = true ∧ k d d' M2
theorem geqD (hu : X.A.units + 64 < cLine) (h : GE X ρ M a (dd (fun i j M2 => Q (.pu (.bool (PyData.eqv i j))) M2) X ρ b)) : GE X ρ M (.Compare a [.Eq] [b] pos) Q := geC (op_eqD hu) (nomark _) (h.mono fun x M1 ⟨d, _, e2, h⟩ => h.mono fun y M2 ⟨d', f0, f1, f2, h⟩ => geq hu f0 f1 e2 f2 h)
theorem teqD (hu : X.A.units + 64 < cLine) (h : GE X ρ M a (dd (fun i j M2 => QT (PyData.eqv i j) M2) X ρ b)) : GT X ρ M (.Compare a [.Eq] [b] pos) QT := gtC (op_eqD hu) (nomark _) (h.mono fun x M1 ⟨d, _, e2, h⟩ => h.mono fun y M2 ⟨d', f0, f1, f2, h⟩ => geq hu f0 f1 e2 f2 ⟨_, rfl, h⟩)
theorem gneD (hu : X.A.units + 64 < cLine) (h : GE X ρ M a (dd (fun i j M2 => Q (.pu (.bool (!PyData.eqv i j))) M2) X ρ b)) : GE X ρ M (.Compare a [.NotEq] [b] pos) Q := geC (op_neD hu) (nomark _) (h.mono fun x M1 ⟨d, _, e2, h⟩ => h.mono fun y M2 ⟨d', f0, f1, f2, h⟩ => gne hu f0 f1 e2 f2 h)
theorem tneD (hu : X.A.units + 64 < cLine) (h : GE X ρ M a (dd (fun i j M2 => QT (!PyData.eqv i j) M2) X ρ b)) : GT X ρ M (.Compare a [.NotEq] [b] pos) QT := gtC (op_neD hu) (nomark _) (h.mono fun x M1 ⟨d, _, e2, h⟩ => h.mono fun y M2 ⟨d', f0, f1, f2, h⟩ => gne hu f0 f1 e2 f2 ⟨_, rfl, h⟩)
/-- d in xs: the list is data -/
def dl (k : PyData → List PyData → Mem → Prop) (X : Cx) (ρ : List SD) (b : Expr) : Kn := fun x M1 => ∃ d, x = .pu d ∧ SeqAt.shaped d = true ∧ GE X ρ M1 b fun y M2 => ∃ ds, MD M2 y (.list ds) ∧ SeqAt.shaped (.list ds) = true ∧ k d ds M2
theorem rIn_ {d : PyData} {ds : List PyData} {y : SD} (h1 : SeqAt.shaped d = true) (hy : MD M y (.list ds)) (h2 : SeqAt.shaped (.list ds) = true) (q : Q (.pu (.bool (ds.any fun z => PyData.eqv z d))) M) : RR X (rInD X.K) (.pu d) y M Q :=
  fun B F H v w Q' W hv hw s => ⟨d, ds, (Dt.mono W.fh hv).dp (shaped_nd h1), (hy.dt W hw).dp (shaped_nd h2), h1, h2, s _ M _ F H q W (Same.refl F) (.bl _)⟩
theorem rNi_ {d : PyData} {ds : List PyData} {y : SD} (h1 : SeqAt.shaped d = true) (hy : MD M y (.list ds)) (h2 : SeqAt.shaped (.list ds) = true) (q : Q (.pu (.bool (!ds.any fun z => PyData.eqv z d))) M) : RR X (rNotInD X.K) (.pu d) y M Q :=
  fun B F H v w Q' W hv hw s => ⟨d, ds, (Dt.mono W.fh hv).dp (shaped_nd h1), (hy.dt W hw).dp (shaped_nd h2), h1, h2, s _ M _ F H q W (Same.refl F) (.bl _)⟩
theorem gin (hu : X.A.units + 65 < cLine) (h : GE X ρ M a (dl (fun i j M2 => Q (.pu (.bool (j.any fun z => PyData.eqv z i))) M2) X ρ b)) (hm : behindInMarks .In b = false := by with_unfolding_all rfl) : GE X ρ M (.Compare a [.In] [b] pos) Q := geC (op_inD hu) hm (h.mono fun x M1 ⟨d, e, e2, h⟩ => e ▸ h.mono fun y M2 ⟨d', f1, f2, h⟩ => rIn_ e2 f1 f2 h)
theorem tin (hu : X.A.units + 65 < cLine) (h : GE X ρ M a (dl (fun i j M2 => QT (j.any fun z => PyData.eqv z i) M2) X ρ b)) (hm : behindInMarks .In b = false := by with_unfolding_all rfl) : GT X ρ M (.Compare a [.In] [b] pos) QT := gtC (op_inD hu) hm (h.mono fun x M1 ⟨d, e, e2, h⟩ => e ▸ h.mono fun y M2 ⟨d', f1, f2, h⟩ => rIn_ e2 f1 f2 ⟨_, rfl, h⟩)
theorem gni (hu : X.A.units + 65 < cLine) (h : GE X ρ M a (dl (fun i j M2 => Q (.pu (.bool (!j.any fun z => PyData.eqv z i))) M2) X ρ b)) (hm : behindInMarks .NotIn b = false := by with_unfolding_all rfl) : GE X ρ M (.Compare a [.NotIn] [b] pos) Q := geC (op_notInD hu) hm (h.mono fun x M1 ⟨d, e, e2, h⟩ => e ▸ h.mono fun y M2 ⟨d', f1, f2, h⟩ => rNi_ e2 f1 f2 h)
theorem tni (hu : X.A.units + 65 < cLine) (h : GE X ρ M a (dl (fun i j M2 => QT (!j.any fun z => PyData.eqv z i) M2) X ρ b)) (hm : behindInMarks .NotIn b = false := by with_unfolding_all rfl) : GT X ρ M (.Compare a [.NotIn] [b] pos) QT := gtC (op_notInD hu) hm (h.mono fun x M1 ⟨d, e, e2, h⟩ => e ▸ h.mono fun y M2 ⟨d', f1, f2, h⟩ => rNi_ e2 f1 f2 ⟨_, rfl, h⟩)

/-! ### tests -/
theorem tval (h : GE X ρ M e (bo QT)) (he : ∀ whole, isTrue e X.env whole = (do let v ← whole; standAt e.pos; holding [v] (truthy v)) := by intro _; rfl) : GT X ρ M e QT := .mk fun B F H σ Q' W S s => by
  refine wT_of (pt_val pE he) (h B F H σ _ W S fun r M1 v F1 H1 hx W1 s1 vx => ?_)
  exact satB s r M1 v F1 H1 hx W1 s1 vx
theorem tand1 (h : GT X ρ M a QT) : GW X ρ M (.BoolOp .And [a] pos) QT := .mk fun B F H σ Q' W S s => wW_of (pw_and1 pT) (h B F H σ Q' W S s)
theorem tor1 (h : GT X ρ M a QT) : GW X ρ M (.BoolOp .Or [a] pos) QT := .mk fun B F H σ Q' W S s => wW_of (pw_or1 pT) (h B F H σ Q' W S s)
theorem tandW (h : GT X ρ M a fun k M1 => if k = true then GW X ρ M1 (.BoolOp .And (b :: es) pos) QT else QT false M1) : GW X ρ M (.BoolOp .And (a :: b :: es) pos) QT := .mk fun B F H σ Q' W S s => by
  refine wW_of (pw_and pT pW) (h B F H σ _ W S fun k M1 F1 H1 hx W1 s1 => ?_)
  cases k with
  | true => exact iteT ((show GW X ρ M1 _ QT from hx) B F1 H1 σ Q' W1 (pMono s1 S) (s.mono s1))
  | false => exact iteF (s _ M1 F1 H1 hx W1 s1)
theorem torW (h : GT X ρ M a fun k M1 => if k = true then QT true M1 else GW X ρ M1 (.BoolOp .Or (b :: es) pos) QT) : GW X ρ M (.BoolOp .Or (a :: b :: es) pos) QT := .mk fun B F H σ Q' W S s => by
  refine wW_of (pw_or pT pW) (h B F H σ _ W S fun k M1 F1 H1 hx W1 s1 => ?_)
  cases k with
  | true => exact iteT (s _ M1 F1 H1 hx W1 s1)
  | false => exact iteF ((show GW X ρ M1 _ QT from hx) B F1 H1 σ Q' W1 (pMono s1 S) (s.mono s1))
theorem tw (h : GW X ρ M a QT) : GT X ρ M a QT := .mk fun B F H σ Q' W S s => wT_of pW.pt (h B F H σ Q' W S s)
theorem tand (h : GT X ρ M a fun k M1 => if k = true then GT X ρ M1 b QT else QT false M1) : GT X ρ M (.BoolOp .And [a, b] pos) QT := tw (tandW (h.mono fun k M1 q => by
  cases k with
  | true => exact tand1 q
  | false => exact q))
theorem tor (h : GT X ρ M a fun k M1 => if k = true then QT true M1 else GT X ρ M1 b QT) : GT X ρ M (.BoolOp .Or [a, b] pos) QT := tw (torW (h.mono fun k M1 q => by
  cases k with
  | true => exact q
  | false => exact tor1 q))
theorem tnot (h : GT X ρ M a fun k M1 => QT (!k) M1) : GT X ρ M (.UnaryOp .Not a pos) QT := .mk fun B F H σ Q' W S s => by
  refine wT_of (pt_not pT) (h B F H σ _ W S fun k M1 F1 H1 hx W1 s1 => ?_)
  exact s _ M1 F1 H1 hx W1 s1
/-- as values -/
theorem gone {op : BoolOp} (h : GE X ρ M a Q) : GE X ρ M (.BoolOp op [a] pos) Q := .mk fun B F H σ Q' W S s => wE_of (pe_one pE) (h B F H σ Q' W S s)
theorem gandV (h : GE X ρ M a (bo fun k M1 => if k = true then GE X ρ M1 (.BoolOp .And (b :: es) pos) Q else Q (.pu (.bool false)) M1)) : GE X ρ M (.BoolOp .And (a :: b :: es) pos) Q := .mk fun B F H σ Q' W S s => by
  refine wE_of (pe_and pE pE) (h B F H σ _ W S fun r M1 v F1 H1 hx W1 s1 vx => ?_)
  obtain ⟨k, rfl, hx⟩ := hx
  have vx : Dt F1 v (.bool k) := vx
  cases vx
  refine ⟨k, rfl, ?_⟩
  cases k with
  | true => exact iteT ((show GE X ρ M1 _ Q from hx) B F1 H1 σ Q' W1 (pMono s1 S) (s.mono s1))
  | false => exact iteF (s _ M1 _ F1 H1 hx W1 s1 (.bl _))
theorem gorV (h : GE X ρ M a (bo fun k M1 => if k = true then Q (.pu (.bool true)) M1 else GE X ρ M1 (.BoolOp .Or (b :: es) pos) Q)) : GE X ρ M (.BoolOp .Or (a :: b :: es) pos) Q := .mk fun B F H σ Q' W S s => by
  refine wE_of (pe_or pE pE) (h B F H σ _ W S fun r M1 v F1 H1 hx W1 s1 vx => ?_)
  obtain ⟨k, rfl, hx⟩ := hx
  have vx : Dt F1 v (.bool k) := vx
  cases vx
  refine ⟨k, rfl, ?_⟩
  cases k with
  | true => exact iteT (s _ M1 _ F1 H1 hx W1 s1 (.bl _))
  | false => exact iteF ((show GE X ρ M1 _ Q from hx) B F1 H1 σ Q' W1 (pMono s1 S) (s.mono s1))
theorem gand (h : GE X ρ M a (bo fun k M1 => if k = true then GE X ρ M1 b Q else Q (.pu (.bool false)) M1)) : GE X ρ M (.BoolOp .And [a, b] pos) Q := gandV (h.mono fun r M1 ⟨k, e, q⟩ => ⟨k, e, by
  cases k with
  | true => exact gone q
  | false => exact q⟩)
theorem gor (h : GE X ρ M a (bo fun k M1 => if k = true then Q (.pu (.bool true)) M1 else GE X ρ M1 b Q)) : GE X ρ M (.BoolOp .Or [a, b] pos) Q := gorV (h.mono fun r M1 ⟨k, e, q⟩ => ⟨k, e, by
  cases k with
  | true => exact q
  | false => exact gone q⟩)
theorem gnot (h : GE X ρ M a (bo fun k M1 => Q (.pu (.bool (!k))) M1)) : GE X ρ M (.UnaryOp .Not a pos) Q := .mk fun B F H σ Q' W S s => by
  refine wE_of (pe_not pE) (h B F H σ _ W S fun r M1 v F1 H1 hx W1 s1 vx => ?_)
  obtain ⟨k, rfl, hx⟩ := hx
  have vx : Dt F1 v (.bool k) := vx
  cases vx
  exact ⟨k, rfl, s _ M1 _ F1 H1 hx W1 s1 (.bl _)⟩
theorem gife (h : GT X ρ M c fun k M1 => if k = true then GE X ρ M1 a Q else GE X ρ M1 b Q) : GE X ρ M (.IfExp c a b pos) Q := .mk fun B F H σ Q' W S s => by
  refine wE_of (pe_ifExp pT pE pE) (h B F H σ _ W S fun k M1 F1 H1 hx W1 s1 => ?_)
  cases k with
  | true => exact iteT ((show GE X ρ M1 a Q from hx) B F1 H1 σ Q' W1 (pMono s1 S) (s.mono s1))
  | false => exact iteF ((show GE X ρ M1 b Q from hx) B F1 H1 σ Q' W1 (pMono s1 S) (s.mono s1))

/-! ### argument lists, displays -/
theorem anil (q : QA [] M) : GA X ρ M [] QA := .mk fun B F H σ Q' W S s => wA_of pa_nil (s _ M _ F H q W (Same.refl F) .nil)
theorem acons (h : GE X ρ M e fun r M1 => GA X ρ M1 es fun rs M2 => QA (r :: rs) M2) (hs : starEach (e :: es) X.env = (false, eval e X.env) :: starEach es X.env := by rfl) : GA X ρ M (e :: es) QA := .mk fun B F H σ Q' W S s => by
  refine wA_of (pa_cons pE pA hs) (h B F H σ _ W S fun r M1 v F1 H1 hx W1 s1 vx => ?_)
  refine hx B F1 H1 σ _ W1 (pMono s1 S) fun rs M2 vs F2 H2 hy W2 s2 vy => ?_
  exact s _ M2 _ F2 H2 hy W2 (s1.trans s2) (.cons (vx.mono s2) vy)
theorem knil (q : QA [] M) : GK X ρ M [] QA := .mk fun B F H σ Q' W S s => wK_of pk_nil (s _ M _ F H q W (Same.refl F) .nil)
theorem kcons {kws : List Keyword} {nm : Option Str} {kp : Pos} (h : GE X ρ M e fun r M1 => GK X ρ M1 kws fun rs M2 => QA (r :: rs) M2) : GK X ρ M (⟨nm, e, kp⟩ :: kws) QA := .mk fun B F H σ Q' W S s => by
  refine wK_of (pk_cons pE pK) (h B F H σ _ W S fun r M1 v F1 H1 hx W1 s1 vx => ?_)
  refine hx B F1 H1 σ _ W1 (pMono s1 S) fun rs M2 vs F2 H2 hy W2 s2 vy => ?_
  exact s _ M2 _ F2 H2 hy W2 (s1.trans s2) (.cons (vx.mono s2) vy)
/-- [a, b, ..]: a new list -/
theorem glst (h : GA X ρ M es fun rs M1 => rs.length ≤ 100000 ∧ ∀ l, Q (.rf (.ref l)) ((l, .lst rs) :: M1)) : GE X ρ M (.List es pos) Q := .mk fun B F H σ Q' W S s => by
  refine wE_of (pe_lst pA) (h B F H σ _ W S fun rs M1 vs F1 H1 hx W1 s1 vx => ?_)
  obtain ⟨hl, q⟩ := hx
  have el : vs.length = rs.length := Paired.length vx
  refine ⟨by rw [el]; exact Nat.le_trans hl (by decide), fun p hp => ?_⟩
  exact s _ _ _ F1 _ (q p) (W1.newl hp vx) s1 rfl
/-- (a, b, ..) of data -/
theorem all_pu {F : Hp} : ∀ {vs : List V} {ds : List PyData}, Paired (VOk F) vs (ds.map .pu) → DtA F vs ds
  | _, [], .nil => .nil
  | _, _ :: _, .cons a b => .cons a (all_pu b)
theorem gtup {x1 : Nat} (h : GA X ρ M es fun rs M1 => ∃ ds, rs = ds.map .pu ∧ ds.length ≤ 100000 ∧ Q (.pu (.tuple ds)) M1) : GE X ρ M (.Tuple es x1 pos) Q := .mk fun B F H σ Q' W S s => by
  refine wE_of (pe_tup pA) (h B F H σ _ W S fun rs M1 vs F1 H1 hx W1 s1 vx => ?_)
  obtain ⟨ds, rfl, hl, q⟩ := hx
  have dx := all_pu vx
  refine ⟨by rw [dx.length]; exact Nat.le_trans hl (by decide), fun p hp => ?_⟩
  obtain ⟨W2, s2⟩ := W1.froz (o := .tup vs) hp
  exact s _ _ _ _ _ q W2 (s1.trans s2) (.tup upd_same (DtA.mono s2 dx))

/-! ### parts -/
inductive Item (M : Mem) : SD → Int → SD → Prop
  | lst {ds : List PyData} {i : Int} {d : PyData} : atI ds i = some d → Item M (.pu (.list ds)) i (.pu d)
  | tup {ds : List PyData} {i : Int} {d : PyData} : atI ds i = some d → Item M (.pu (.tuple ds)) i (.pu d)
  | mem {l : Addr} {xs : List SD} {i : Int} {r : SD} : (l, MO.lst xs) ∈ M → atI xs i = some r → Item M (.rf (.ref l)) i r
theorem atI_rel {α β : Type} {R : α → β → Prop} (xs : List α) (ys : List β) (hl : xs.length = ys.length) (hg : ∀ (i : Nat) (y : β), ys[i]? = some y → ∃ x, xs[i]? = some x ∧ R x y) {i : Int} {y : β} (h : atI ys i = some y) : ∃ x, atI xs i = some x ∧ R x y := by
  unfold atI at h ⊢
  rw [hl]
  cases e : ixN ys.length i with
  | none =>
    rw [e] at h
    cases h
  | some j =>
    rw [e] at h
    exact hg j y h
theorem paired_at {F : Hp} : ∀ {vs : List V} {xs : List SD} {i : Nat} {r : SD}, Paired (VOk F) vs xs → xs[i]? = some r → ∃ v, vs[i]? = some v ∧ VOk F v r
  | _, _, i, _, .nil, h => by simp at h
  | _, _, 0, r, .cons a b, h => by
    have e : _ = r := Option.some.inj h
    subst e
    exact ⟨_, rfl, a⟩
  | _, _, i + 1, r, .cons a b, h => by
    obtain ⟨o, e1, e2⟩ := paired_at (i := i) b (by simpa using h)
    exact ⟨o, by simpa using e1, e2⟩
theorem gix (h : GE X ρ M a fun x M1 => GE X ρ M1 b fun y M2 => ∃ i r, y = .pu (.int i) ∧ Item M2 x i r ∧ Q r M2) (hs : PlainIx b := by intro _ _; rfl) : GE X ρ M (.Subscript a b pos) Q := .mk fun B F H σ Q' W S s => by
  refine wE_of (pe_ix ix_seq pE pE hs) (h B F H σ _ W S fun x M1 v F1 H1 hx W1 s1 vx => ?_)
  refine hx B F1 H1 σ _ W1 (pMono s1 S) fun y M2 w F2 H2 hy W2 s2 wy => ?_
  obtain ⟨i, r, rfl, it, q⟩ := hy
  have wy : Dt F2 w (.int i) := wy
  cases wy
  have vx := vx.mono s2
  cases it with
  | lst ha =>
    have vx : Dt F2 v (.list _) := vx
    cases vx with
    | lst h1 h2 =>
      obtain ⟨u, e1, e2⟩ := atI_rel (R := Dt F2) _ _ h2.length (fun i d e => h2.get e) ha
      exact .inl ⟨_, _, i, u, rfl, rfl, .of (W2.fh _ _ h1), e1, s _ M2 _ F2 H2 q W2 (s1.trans s2) e2⟩
  | tup ha =>
    have vx : Dt F2 v (.tuple _) := vx
    cases vx with
    | tup h1 h2 =>
      obtain ⟨u, e1, e2⟩ := atI_rel (R := Dt F2) _ _ h2.length (fun i d e => h2.get e) ha
      exact .inr (.inl ⟨_, _, i, u, rfl, rfl, .of (W2.fh _ _ h1), e1, s _ M2 _ F2 H2 q W2 (s1.trans s2) e2⟩)
  | mem hm ha =>
    have vx : v = .ref _ := vx
    subst vx
    obtain ⟨f1, vs, f2, f3⟩ := W2.mem _ hm
    obtain ⟨u, e1, e2⟩ := atI_rel (R := VOk F2) _ _ (Paired.length f3) (fun i d e => paired_at f3 e) ha
    exact .inl ⟨_, _, i, u, rfl, rfl, .of f2, e1, s _ M2 _ F2 H2 q W2 (s1.trans s2) e2⟩
end
end G

namespace G
open PySem PySem.Spec PyProof.Rows L2
section
variable {X : Cx} {ρ : List SD} {M : Mem} {Q : Kn} {QT : Bool → Mem → Prop} {QA : List SD → Mem → Prop} {pos : Pos} {a b c e : Expr} {es : List Expr}

/-! ### a list's items, frozen or not -/
inductive LV (M : Mem) : SD → List SD → Prop
  | pu {ds : List PyData} : LV M (.pu (.list ds)) (ds.map .pu)
  | mem {l : Addr} {xs : List SD} : (l, MO.lst xs) ∈ M → LV M (.rf (.ref l)) xs
theorem pair_pu {F : Hp} : ∀ {vs : List V} {ds : List PyData}, DtA F vs ds → Paired (VOk F) vs (ds.map .pu)
  | _, _, .nil => .nil
  | _, _, .cons a b => .cons a (pair_pu b)
theorem LV.at {B : Bs} {F H : Hp} {v : V} {r : SD} {xs : List SD} (W : Wd B F H M) (h : LV M r xs) (hv : VOk F v r) : ∃ p vs, v = .ref p ∧ H p = some (.lst vs) ∧ Paired (VOk F) vs xs := by
  cases h with
  | pu =>
    have hv : Dt F v (.list _) := hv
    cases hv with
    | lst h1 h2 => exact ⟨_, _, rfl, W.fh _ _ h1, pair_pu h2⟩
  | mem hm =>
    have hv : v = .ref _ := hv
    subst hv
    obtain ⟨f1, vs, f2, f3⟩ := W.mem _ hm
    exact ⟨_, vs, rfl, f2, f3⟩
theorem LV.md : ∀ {r : SD} {ds : List PyData}, LV M r (ds.map .pu) → MD M r (.list ds) := by
  intro r ds h
  generalize hx : ds.map SD.pu = xs at h
  cases h with
  | pu =>
    rename_i ds'
    have e : ds = ds' := by
      have h2 : ∀ (l l' : List PyData), l.map SD.pu = l'.map SD.pu → l = l' := by
        intro l
        induction l with
        | nil => intro l' h; cases l' with
          | nil => rfl
          | cons _ _ => cases h
        | cons x r ih => intro l' h; cases l' with
          | nil => cases h
          | cons y r' =>
            rw [List.map_cons, List.map_cons] at h
            injection h with h1 h2
            injection h1 with h1
            rw [h1, ih r' h2]
      exact h2 _ _ hx
    subst e
    exact .pu _
  | mem hm =>
    subst hx
    refine .mem hm ?_
    clear hm
    induction ds with
    | nil => exact .nil
    | cons d ds ih => exact .cons (.pu d) ih

/-! ### slices -/
def wOpt (X : Cx) : Option Expr → TO
  | none => tNoPart
  | some e => tPart (wE X e)
theorem pOpt : ∀ {o : Option Expr}, PO X o (wOpt X o)
  | none => po_none
  | some _ => po_some pE
def GO (X : Cx) (ρ : List SD) (M : Mem) (Q : Option Int → Mem → Prop) : Option Expr → Prop
  | none => Q none M
  | some e => GE X ρ M e fun r M1 => ∃ i, r = .pu (.int i) ∧ Q (some i) M1
def SatO (B : Bs) (F : Hp) (Q : Option Int → Mem → Prop) (Q' : Option Int → Hp → Prop) : Prop := ∀ b M F' H', Q b M → Wd B F' H' M → Same F F' → Q' b H'
theorem goRun {B : Bs} {F H : Hp} {σ : L2.St} {QO : Option Int → Mem → Prop} {Q' : Option Int → Hp → Prop} (W : Wd B F H M) (S : Paired (SOk F) σ ρ) (s : SatO B F QO Q') : ∀ {o : Option Expr}, GO X ρ M QO o → wOpt X o σ H Q'
  | none, h => s _ M F H h W (Same.refl F)
  | some e, h => (show GE X ρ M e _ from h) B F H σ _ W S fun r M1 v F1 H1 hx W1 s1 vx => by
    obtain ⟨i, rfl, q⟩ := hx
    have vx : Dt F1 v (.int i) := vx
    cases vx
    exact ⟨i, rfl, s _ M1 F1 H1 q W1 s1⟩
def cutL {α : Type} (xs : List α) (lo hi : Option Int) : List α := (xs.drop (HT.sIx xs.length 0 lo)).take (HT.sIx xs.length xs.length hi - HT.sIx xs.length 0 lo)
theorem paired_drop {F : Hp} : ∀ {vs : List V} {xs : List SD} (n : Nat), Paired (VOk F) vs xs → Paired (VOk F) (vs.drop n) (xs.drop n)
  | _, _, 0, a => a
  | _, _, n + 1, .nil => .nil
  | _, _, n + 1, .cons h a => paired_drop n a
theorem paired_take {F : Hp} : ∀ {vs : List V} {xs : List SD} (n : Nat), Paired (VOk F) vs xs → Paired (VOk F) (vs.take n) (xs.take n)
  | _, _, 0, a => .nil
  | _, _, n + 1, .nil => .nil
  | _, _, n + 1, .cons h a => .cons h (paired_take n a)
theorem paired_cut {F : Hp} {vs : List V} {xs : List SD} (lo hi : Option Int) (h : Paired (VOk F) vs xs) : Paired (VOk F) (cutV vs lo hi) (cutL xs lo hi) := by
  unfold cutV cutL
  rw [Paired.length h]
  exact paired_take _ (paired_drop _ h)
/-- xs[lo:hi] of a list: a new list -/
theorem gsl {lo hi : Option Expr} {p2 : Pos} (h : GE X ρ M e fun x M1 => GO X ρ M1 (fun i M2 => GO X ρ M2 (fun j M3 => ∃ xs, LV M3 x xs ∧ ∀ l, Q (.rf (.ref l)) ((l, .lst (cutL xs i j)) :: M3)) hi) lo) : GE X ρ M (.Subscript e (.Slice lo hi none p2) pos) Q := .mk fun B F H σ Q' W S s => by
  refine wE_of (pe_slice sl_list pE pOpt pOpt) (h B F H σ _ W S fun x M1 v F1 H1 hx W1 s1 vx => ?_)
  refine goRun W1 (pMono s1 S) (fun i M2 F2 H2 hy W2 s2 => ?_) hx
  refine goRun W2 (pMono (s1.trans s2) S) (fun j M3 F3 H3 hz W3 s3 => ?_) hy
  obtain ⟨xs, lv, q⟩ := hz
  obtain ⟨p, vs, rfl, hp, pr⟩ := lv.at W3 (SOk.mono (s2.trans s3) vx)
  exact ⟨p, vs, rfl, .of hp, fun q' hq => s _ _ _ F3 _ (q q') (W3.newl hq (paired_cut i j pr)) ((s1.trans s2).trans s3) rfl⟩
theorem paired_app {F : Hp} : ∀ {vs ws : List V} {xs ys : List SD}, Paired (VOk F) vs xs → Paired (VOk F) ws ys → Paired (VOk F) (vs ++ ws) (xs ++ ys)
  | _, _, _, _, .nil, b => b
  | _, _, _, _, .cons h a, b => .cons h (paired_app a b)
/-- xs + ys: a new list -/
theorem gcat (h : GE X ρ M a fun x M1 => GE X ρ M1 b fun y M2 => ∃ xs ys, LV M2 x xs ∧ LV M2 y ys ∧ xs.length + ys.length ≤ 100000 ∧ ∀ l, Q (.rf (.ref l)) ((l, .lst (xs ++ ys)) :: M2)) : GE X ρ M (.BinOp a .Add b pos) Q := ge2 op_cat (h.mono fun x M1 h => h.mono fun y M2 ⟨xs, ys, h1, h2, hl, q⟩ => fun B F H v w Q' W hv hw s => by
  obtain ⟨p, vs, rfl, hp, pr⟩ := h1.at W hv
  obtain ⟨p', vs', rfl, hp', pr'⟩ := h2.at W hw
  exact ⟨p, p', vs, vs', rfl, rfl, hp, hp', by rw [Paired.length pr, Paired.length pr']; exact Nat.le_trans hl (by decide), fun l hl => s _ _ _ F _ (q l) (W.newl hl (paired_app pr pr')) (Same.refl F) rfl⟩)

/-! ### built-in functions -/
theorem gcb {id : String} {x : Str} {p : Pos} {r : List V → Hp → VK → Prop} (hc : CallR X (.builtin id) r) (hm : X.mg x = none) (hv : bootBuiltins x = some (.builtin id)) (h : GA X ρ M (e :: es) fun rs M1 => RC X r rs M1 Q) (hg : Gl X x := by rfl) (hn : x ≠ "__name__" := by decide) (hdb : (x == ("__debug__" : Str)) = false := by decide)
    (he : starEach (e :: es) X.env = (false, eval e X.env) :: starEach es X.env := by rfl) (hpl : (backTo pos (starEach es X.env)).any (·.1) = false := by rfl) : GE X ρ M (.Call (.Name x p) (e :: es) [] pos) Q := .mk fun B F H σ Q' W S s => by
  refine wE_of (pe_callB hc hg hm hv pA hn hdb he hpl) (h B F H σ _ W S fun rs M1 vs F1 H1 hx W1 s1 vx => ?_)
  exact hx B F1 H1 vs Q' W1 vx (s.mono s1)
theorem gct {T : String} {x : Str} {p : Pos} {r : List V → Hp → VK → Prop} (hc : CallR X (.type T) r) (hm : X.mg x = none) (hv : bootBuiltins x = some (.type T)) (h : GA X ρ M (e :: es) fun rs M1 => RC X r rs M1 Q) (hg : Gl X x := by rfl) (hn : x ≠ "__name__" := by decide) (hdb : (x == ("__debug__" : Str)) = false := by decide)
    (he : starEach (e :: es) X.env = (false, eval e X.env) :: starEach es X.env := by rfl) (hpl : (backTo pos (starEach es X.env)).any (·.1) = false := by rfl) : GE X ρ M (.Call (.Name x p) (e :: es) [] pos) Q := .mk fun B F H σ Q' W S s => by
  refine wE_of (pe_callTy hc hg hm hv pA hn hdb he hpl) (h B F H σ _ W S fun rs M1 vs F1 H1 hx W1 s1 vx => ?_)
  exact hx B F1 H1 vs Q' W1 vx (s.mono s1)
theorem p1 {F : Hp} {vs : List V} {r : SD} (h : Paired (VOk F) vs [r]) : ∃ v, vs = [v] ∧ VOk F v r := by
  cases h with
  | cons a b =>
    cases b
    exact ⟨_, rfl, a⟩
theorem p2 {F : Hp} {vs : List V} {r t : SD} (h : Paired (VOk F) vs [r, t]) : ∃ v w, vs = [v, w] ∧ VOk F v r ∧ VOk F w t := by
  cases h with
  | cons a b =>
    obtain ⟨w, e, k⟩ := p1 b
    exact ⟨_, w, by rw [e], a, k⟩
inductive Len (M : Mem) : SD → Nat → Prop
  | lst {r : SD} {xs : List SD} : LV M r xs → Len M r xs.length
  | tup {ds : List PyData} : Len M (.pu (.tuple ds)) ds.length
theorem glen {p : Pos} (hm : X.mg "len" = none) (h : GE X ρ M e fun x M1 => ∃ n, Len M1 x n ∧ Q (.pu (.int (n : Int))) M1) (hg : Gl X "len" := by rfl) (he : starEach [e] X.env = [(false, eval e X.env)] := by rfl) : GE X ρ M (.Call (.Name "len" p) [e] [] pos) Q :=
  gcb call_len_seq hm PySem.boot_len (acons (h.mono fun x M1 ⟨n, hl, q⟩ => anil fun B F H vs Q' W hvs s => by
    obtain ⟨v, rfl, hv⟩ := p1 hvs
    cases hl with
    | lst lv =>
      obtain ⟨p, vs, rfl, hp, pr⟩ := lv.at W hv
      refine ⟨p, vs, rfl, .inl (.of hp), ?_⟩
      rw [Paired.length pr]
      exact s _ M1 _ F H q W (Same.refl F) (.int _)
    | tup =>
      have hv : Dt F v (.tuple _) := hv
      cases hv with
      | tup h1 h2 =>
        refine ⟨_, _, rfl, .inr (.of (W.fh _ _ h1)), ?_⟩
        rw [h2.length]
        exact s _ M1 _ F H q W (Same.refl F) (.int _)) he) hg (he := he)
/-- int(n) of an int -/
theorem gint {p : Pos} (hm : X.mg "int" = none) (h : GE X ρ M e fun x M1 => ∃ i, x = .pu (.int i) ∧ Q (.pu (.int i)) M1) (hg : Gl X "int" := by rfl) (he : starEach [e] X.env = [(false, eval e X.env)] := by rfl) : GE X ρ M (.Call (.Name "int" p) [e] [] pos) Q :=
  gct call_int1 hm PyProof.Rows.boot_int (acons (h.mono fun x M1 ⟨i, ex, q⟩ => anil fun B F H vs Q' W hvs s => by
    subst ex
    obtain ⟨v, rfl, hv⟩ := p1 hvs
    have hv : Dt F v (.int i) := hv
    cases hv
    exact .inl ⟨i, rfl, s _ M1 _ F H q W (Same.refl F) (.int _)⟩) he) hg (he := he)
/-- int(b) of a truth value -/
theorem gintb {p : Pos} (hm : X.mg "int" = none) (h : GE X ρ M e fun x M1 => ∃ k, x = .pu (.bool k) ∧ Q (.pu (.int (if k then 1 else 0))) M1) (hg : Gl X "int" := by rfl) (he : starEach [e] X.env = [(false, eval e X.env)] := by rfl) : GE X ρ M (.Call (.Name "int" p) [e] [] pos) Q :=
  gct call_int1 hm PyProof.Rows.boot_int (acons (h.mono fun x M1 ⟨i, ex, q⟩ => anil fun B F H vs Q' W hvs s => by
    subst ex
    obtain ⟨v, rfl, hv⟩ := p1 hvs
    have hv : Dt F v (.bool i) := hv
    cases hv
    exact .inr ⟨i, rfl, s _ M1 _ F H q W (Same.refl F) (.int _)⟩) he) hg (he := he)
/-- min(i, j) -/
theorem gmin {p : Pos} (hc : X.calm = true) (hm : X.mg "min" = none) (h : GE X ρ M a fun x M1 => ∃ i, x = .pu (.int i) ∧ GE X ρ M1 b fun y M2 => ∃ j, y = .pu (.int j) ∧ Q (.pu (.int (if j < i then j else i))) M2) (hg : Gl X "min" := by rfl) (he : starEach [a, b] X.env = [(false, eval a X.env), (false, eval b X.env)] := by rfl) (he2 : starEach [b] X.env = [(false, eval b X.env)] := by rfl) :
    GE X ρ M (.Call (.Name "min" p) [a, b] [] pos) Q :=
  gcb (call_min2 hc) hm PyProof.Rows.boot_min (acons (h.mono fun x M1 ⟨i, ex, h⟩ => acons (h.mono fun y M2 ⟨j, ey, q⟩ => anil fun B F H vs Q' W hvs s => by
    subst ex ey
    obtain ⟨v, w, rfl, hv, hw⟩ := p2 hvs
    have hv : Dt F v (.int i) := hv
    have hw : Dt F w (.int j) := hw
    cases hv
    cases hw
    exact ⟨i, j, rfl, s _ M2 _ F H q W (Same.refl F) (.int _)⟩) he2) (by rw [he, he2])) hg (he := by rw [he, he2]) (hpl := by rw [he2]; rfl)
/-- list(x) of a list, of a tuple: a new list -/
inductive LTV (M : Mem) : SD → List SD → Prop
  | lst {r : SD} {xs : List SD} : LV M r xs → LTV M r xs
  | tup {ds : List PyData} : LTV M (.pu (.tuple ds)) (ds.map .pu)
theorem glist {p : Pos} (hm : X.mg "list" = none) (h : GE X ρ M e fun x M1 => ∃ xs, LTV M1 x xs ∧ ∀ l, Q (.rf (.ref l)) ((l, .lst xs) :: M1)) (hg : Gl X "list" := by rfl) (he : starEach [e] X.env = [(false, eval e X.env)] := by rfl) : GE X ρ M (.Call (.Name "list" p) [e] [] pos) Q :=
  gct call_list_of hm PyProof.Rows.boot_list (acons (h.mono fun x M1 ⟨xs, hl, q⟩ => anil fun B F H vs Q' W hvs s => by
    obtain ⟨v, rfl, hv⟩ := p1 hvs
    cases hl with
    | lst lv =>
      obtain ⟨p, vs, rfl, hp, pr⟩ := lv.at W hv
      exact ⟨p, vs, rfl, .inl (.of hp), fun l hl => s _ _ _ F _ (q l) (W.newl hl pr) (Same.refl F) rfl⟩
    | tup =>
      have hv : Dt F v (.tuple _) := hv
      cases hv with
      | tup h1 h2 => exact ⟨_, _, rfl, .inr (.of (W.fh _ _ h1)), fun l hl => s _ _ _ F _ (q l) (W.newl hl (pair_pu h2)) (Same.refl F) rfl⟩) he) hg (he := he)
theorem ints_of {F : Hp} : ∀ {vs : List V} {ns : List Int}, Paired (VOk F) vs (ns.map fun n => SD.pu (.int n)) → vs = ns.map V.int
  | _, [], .nil => rfl
  | _, n :: ns, .cons a b => by
    have a : Dt F _ (.int n) := a
    cases a
    rw [ints_of b]
    rfl
theorem of_ints {F : Hp} : ∀ (ns : List Int), Paired (VOk F) (ns.map V.int) (ns.map fun n => SD.pu (.int n))
  | [] => .nil
  | n :: ns => .cons (Dt.int n) (of_ints ns)
abbrev pints (ns : List Int) : List SD := ns.map fun n => SD.pu (.int n)
/-- sorted(xs) of ints: a new list -/
theorem gsorted {p : Pos} (hm : X.mg "sorted" = none) (h : GE X ρ M e fun x M1 => ∃ ns, LV M1 x (pints ns) ∧ ∀ l ns', ns'.Perm ns → ns'.Pairwise (· ≤ ·) → Q (.rf (.ref l)) ((l, .lst (pints ns')) :: M1)) (hg : Gl X "sorted" := by rfl) (he : starEach [e] X.env = [(false, eval e X.env)] := by rfl) : GE X ρ M (.Call (.Name "sorted" p) [e] [] pos) Q :=
  gcb cr_sortedI hm PyProof.Rows.boot_sorted (acons (h.mono fun x M1 ⟨ns, lv, q⟩ => anil fun B F H vs Q' W hvs s => by
    obtain ⟨v, rfl, hv⟩ := p1 hvs
    obtain ⟨p, vs, rfl, hp, pr⟩ := lv.at W hv
    have ev := ints_of pr
    subst ev
    exact ⟨p, ns, rfl, .of hp, fun ns' l h1 h2 hl => s _ _ _ F _ (q l ns' h1 h2) (W.newl hl (of_ints ns')) (Same.refl F) rfl⟩) he) hg (he := he)
/-- sum(xs) of ints -/
theorem gsum {p : Pos} (hc : X.calm = true) (hm : X.mg "sum" = none) (h : GE X ρ M e fun x M1 => ∃ ns, LV M1 x (pints ns) ∧ Q (.pu (.int ns.sum)) M1) (hg : Gl X "sum" := by rfl) (he : starEach [e] X.env = [(false, eval e X.env)] := by rfl) : GE X ρ M (.Call (.Name "sum" p) [e] [] pos) Q :=
  gcb (cr_sum hc) hm PyProof.Rows.boot_sum (acons (h.mono fun x M1 ⟨ns, lv, q⟩ => anil fun B F H vs Q' W hvs s => by
    obtain ⟨v, rfl, hv⟩ := p1 hvs
    obtain ⟨p, vs, rfl, hp, pr⟩ := lv.at W hv
    have ev := ints_of pr
    subst ev
    exact ⟨p, ns, rfl, .of hp, s _ M1 _ F H q W (Same.refl F) (.int _)⟩) he) hg (he := he)
/-- all(xs) of truth values -/
theorem bools_of {F : Hp} : ∀ {vs : List V} {ns : List Bool}, Paired (VOk F) vs (ns.map fun n => SD.pu (.bool n)) → vs = ns.map V.bl
  | _, [], .nil => rfl
  | _, n :: ns, .cons a b => by
    have a : Dt F _ (.bool n) := a
    cases a
    rw [bools_of b]
    rfl
abbrev pbools (ns : List Bool) : List SD := ns.map fun n => SD.pu (.bool n)
theorem gall {p : Pos} (hc : X.calm = true) (hm : X.mg "all" = none) (h : GE X ρ M e fun x M1 => ∃ ns, LV M1 x (pbools ns) ∧ Q (.pu (.bool (ns.all id))) M1) (hg : Gl X "all" := by rfl) (he : starEach [e] X.env = [(false, eval e X.env)] := by rfl) : GE X ρ M (.Call (.Name "all" p) [e] [] pos) Q :=
  gcb (cr_all hc) hm PyProof.Rows.boot_all (acons (h.mono fun x M1 ⟨ns, lv, q⟩ => anil fun B F H vs Q' W hvs s => by
    obtain ⟨v, rfl, hv⟩ := p1 hvs
    obtain ⟨p, vs, rfl, hp, pr⟩ := lv.at W hv
    have ev := bools_of pr
    subst ev
    exact ⟨p, ns, rfl, .of hp, s _ M1 _ F H q W (Same.refl F) (.bl _)⟩) he) hg (he := he)
/-- isinstance(x, T), T a built-in class -/
inductive Ty (M : Mem) : SD → String → Prop
  | non : Ty M (.pu .none) "NoneType"
  | bl (b : Bool) : Ty M (.pu (.bool b)) "bool"
  | int (i : Int) : Ty M (.pu (.int i)) "int"
  | str (x : Str) : Ty M (.pu (.str x)) "str"
  | lst {r : SD} {xs : List SD} : LV M r xs → Ty M r "list"
  | tup (ds : List PyData) : Ty M (.pu (.tuple ds)) "tuple"
  | dic : Ty M (.pu (.dict [])) "dict"
theorem gisi {p : Pos} (hm : X.mg "isinstance" = none) (h : GE X ρ M a fun x M1 => GE X ρ M1 b fun y M2 => ∃ T n k, Ty M2 x T ∧ y = .rf (.ty n) ∧ kitB T n = some k ∧ Q (.pu (.bool k)) M2) (hg : Gl X "isinstance" := by rfl) (he : starEach [a, b] X.env = [(false, eval a X.env), (false, eval b X.env)] := by rfl) (he2 : starEach [b] X.env = [(false, eval b X.env)] := by rfl) :
    GE X ρ M (.Call (.Name "isinstance" p) [a, b] [] pos) Q :=
  gcb call_isi hm PyProof.Rows.boot_isinstance (acons (h.mono fun x M1 h => acons (h.mono fun y M2 ⟨T, n, k, ty, ey, hk, q⟩ => anil fun B F H vs Q' W hvs s => by
    subst ey
    obtain ⟨v, w, rfl, hv, hw⟩ := p2 hvs
    have hw : w = .ty n := hw
    subst hw
    have fin := s _ M2 _ F H q W (Same.refl F) (.bl k)
    cases ty with
    | non =>
      have hv : Dt F v .none := hv
      cases hv
      exact ⟨_, _, _, _, k, rfl, .ty n, .base .non, kit_ty hk, fin⟩
    | bl b =>
      have hv : Dt F v (.bool b) := hv
      cases hv
      exact ⟨_, _, _, _, k, rfl, .ty n, .base (.bl b), kit_ty hk, fin⟩
    | int i =>
      have hv : Dt F v (.int i) := hv
      cases hv
      exact ⟨_, _, _, _, k, rfl, .ty n, .base (.int i), kit_ty hk, fin⟩
    | str i =>
      have hv : Dt F v (.str i) := hv
      cases hv
      exact ⟨_, _, _, _, k, rfl, .ty n, .base (.str i), kit_ty hk, fin⟩
    | lst lv =>
      obtain ⟨p, vs, rfl, hp, pr⟩ := lv.at W hv
      exact ⟨_, _, _, _, k, rfl, .ty n, .base (.lst hp), kit_ty hk, fin⟩
    | dic =>
      have hv : Dt F v (.dict []) := hv
      cases hv with
      | dic h1 => exact ⟨_, _, _, _, k, rfl, .ty n, .base (.dT (W.fh _ _ h1)), kit_ty hk, fin⟩
    | tup ds =>
      have hv : Dt F v (.tuple ds) := hv
      cases hv with
      | tup h1 h2 => exact ⟨_, _, _, _, k, rfl, .ty n, .base (.tup (W.fh _ _ h1)), kit_ty hk, fin⟩) he2) (by rw [he, he2])) hg (he := by rw [he, he2]) (hpl := by rw [he2]; rfl)

/-! ### repr -/
def rRepr (K : PySem.W.Frag) : List V → Hp → VK → Prop := fun xs H Q => ∃ v d, xs = [v] ∧ Dp K H v d ∧ d.showable = true ∧ d.hasDict = false ∧ d.depth ≤ 20 ∧ d.shown.length ≤ sizeLine ∧ Q (.str d.shown) H
theorem cr_repr (hgd : X.A.guards = some []) (hu : X.A.units + 64 < cLine) : CallR X (.builtin "repr") (rRepr X.K) := by
  intro pins s σ H xs us Q I r h
  obtain ⟨v, d, rfl, hd, h1, h2, h3, h4, q⟩ := h
  obtain ⟨u, rfl, ru⟩ := vals1 r
  obtain ⟨as, rd⟩ := Dp.reads I d v u hd ru
  have fin : ∀ h' t tk, (∀ b o, s.heap.get? b = some o → h'.get? b = some o) → EP X pins σ Q (.str d.shown t) { s with heap := h', toks := tk } := fun h' t tk k => ⟨.str d.shown, H, I.kept k, ⟨t, rfl⟩, q⟩
  cases hd with
  | non =>
    obtain rfl : u = .none := ru
    exact PySem.P.repr_of_none (fin s.heap _ _ fun _ _ e => e)
  | bl b =>
    obtain rfl : u = .bool b := ru
    exact PySem.P.repr_of_bool (b := b) (fin s.heap _ _ fun _ _ e => e)
  | int i =>
    obtain ⟨t, rfl⟩ := ru
    exact PySem.P.repr_of_int (by simpa [PyData.showable] using h1) (fin s.heap _ _ fun _ _ e => e)
  | str i =>
    obtain ⟨t, rfl⟩ := ru
    exact PySem.P.repr_of_str (fin s.heap _ _ fun _ _ e => e) h4
  | lst _ _ =>
    obtain rfl : u = .ref _ := ru
    exact repr_of_reads' rd h1 (fun z => by rw [h2] at z; cases z) hgd (by omega) (fun _ _ e => e) (fun h' u tk k => fin h' u tk k) h4
  | tup _ _ =>
    obtain rfl : u = .ref _ := ru
    exact repr_of_reads' rd h1 (fun z => by rw [h2] at z; cases z) hgd (by omega) (fun _ _ e => e) (fun h' u tk k => fin h' u tk k) h4
structure Shows (d : PyData) : Prop where
  sh : d.showable = true
  nd : d.hasDict = false
  dp : d.depth ≤ 20
  sz : d.shown.length ≤ sizeLine
theorem grepr {p : Pos} (hgd : X.A.guards = some []) (hu : X.A.units + 64 < cLine) (hm : X.mg "repr" = none) (h : GE X ρ M e fun x M1 => ∃ d, MD M1 x d ∧ Shows d ∧ Q (.pu (.str d.shown)) M1) (hg : Gl X "repr" := by rfl) (he : starEach [e] X.env = [(false, eval e X.env)] := by rfl) : GE X ρ M (.Call (.Name "repr" p) [e] [] pos) Q :=
  gcb (cr_repr hgd hu) hm PyProof.Rows.boot_repr (acons (h.mono fun x M1 ⟨d, md, sh, q⟩ => anil fun B F H vs Q' W hvs s => by
    obtain ⟨v, rfl, hv⟩ := p1 hvs
    exact ⟨v, d, rfl, (md.dt W hv).dp sh.nd, sh.sh, sh.nd, sh.dp, sh.sz, s _ M1 _ F H q W (Same.refl F) (.str _)⟩) he) hg (he := he)
end
end G

namespace G
open PySem PySem.Spec PyProof.Rows L2
/-! ### the promise of a def -/
abbrev GSpec := List SD → Mem → Kn → Prop
def spG (S : GSpec) : Sp := fun vs H Q _ => ∃ F rs M Kk, Paired (VOk F) vs rs ∧ Wd (here F H M) F H M ∧ S rs M Kk ∧ Sat (here F H M) F Kk Q
structure FnG (P : Program) (w : World) (K : PySem.W.Frag) (mg : Str → Option Value) (base : Heap) (k : Nat) (f : Addr) (fd : FuncData) (ps : List Str) (S : GSpec) : Prop where
  len : ∀ rs M Kk, S rs M Kk → rs.length = ps.length
  run : ∀ (A : Around) (outer : List Env) (s : Shared) (H : Hp) (args : Args) (us : List Value) (vs : List V) (Q : VK),
    A.guards = some [] → Room k A → Env0 P w K mg base A outer s H → BindsTo s fd args (ps.zip us) → Vals vs us → spG S vs H Q E0 →
    codeAny (model P w) A (.call (.ref f) args) (CR CX0 outer P w H s Q E0) s
theorem FnG.mono {P : Program} {w : World} {K : PySem.W.Frag} {mg : Str → Option Value} {base : Heap} {j k : Nat} {f : Addr} {fd : FuncData} {ps : List Str} {S : GSpec} (F : FnG P w K mg base j f fd ps S) (h : j ≤ k) : FnG P w K mg base k f fd ps S :=
  ⟨F.len, fun A o s H args us vs Q g hr => F.run A o s H args us vs Q g (hr.mono h)⟩
section
variable {X : Cx} {ρ : List SD} {M : Mem} {Q : Kn} {QT : Bool → Mem → Prop} {QA : List SD → Mem → Prop} {pos : Pos} {a b c e : Expr} {es : List Expr} {k : Nat} {f : Addr} {fd : FuncData} {ps : List Str} {S : GSpec}
theorem spG_len (F : FnG X.prog X.w X.K X.mg X.base k f fd ps S) {vs : List V} {H : Hp} {Q' : VK} (h : spG S vs H Q' E0) : vs.length = ps.length := by
  obtain ⟨F', rs, M', Kk, h1, _, h2, _⟩ := h
  rw [Paired.length h1]
  exact F.len _ _ _ h2
/-- the callee runs -/
theorem runG {args : Args} {us : List Value} {vs : List V} {Q' : VK} {pins : List (Addr × Obj)} {σ : L2.St} {H : Hp} {s : Shared}
    (F : FnG X.prog X.w X.K X.mg X.base k f fd ps S) (hgd : X.A.guards = some []) (hr : Room k X.A) (hb : BindsTo s fd args (ps.zip us))
    (I : Inv X pins σ H s) (r : Vals vs us) (h : spG S vs H Q' E0) :
    wpAny (model X.prog X.w) X.A (call (.ref f) args.pos args.kw) (EP X pins σ Q') X.xe s := by
  have z := F.run X.A X.stack s H args us vs Q' hgd hr I.env0 hb r h
  refine wpAny_call (codeAny_mono z fun res s' hq => ?_)
  match res, hq with
  | .error _, hq => exact False.elim hq
  | .ok (.ret _), hq => exact I.after hq
  | .ok .next, hq => exact False.elim hq
  | .ok .brk, hq => exact False.elim hq
  | .ok .cont, hq => exact False.elim hq
/-- from what the caller knows to what the callee asks -/
theorem toSp {B : Bs} {F H : Hp} {M1 Ma Mr : Mem} {rs : List SD} {vs : List V} {Q' : VK} (W : Wd B F H M1) (hp : M1.Perm (Ma ++ Mr)) (vx : Paired (VOk F) vs rs)
    (h : S rs Ma fun r M' => Q r (M' ++ Mr)) (s : Sat B F Q Q') : spG S vs H Q' E0 := by
  have W1 := W.perm hp
  have W2 := W1.sub (List.sublist_append_left Ma Mr)
  refine ⟨F, rs, Ma, _, vx, W2.here, h, fun r M' v F' H' q W' s' vv => ?_⟩
  exact s r _ v F' H' q (W1.frame W') s' vv
/-- f(e, ..) -/
theorem gcall {x : Str} {p : Pos} (F : FnG X.prog X.w X.K X.mg X.base k f fd ps S) (hgd : X.A.guards = some []) (hr : Room k X.A) (hm : X.mg x = some (.ref f)) (hk : PySem.W.keepIn X.K (.ref f) = true) (hb : Binds X.K fd ps [])
    (h : GA X ρ M (e :: es) fun rs M1 => ∃ Ma Mr, M1.Perm (Ma ++ Mr) ∧ S rs Ma fun r M' => Q r (M' ++ Mr)) (hg : Gl X x := by rfl) (hdb : (x == ("__debug__" : Str)) = false := by decide)
    (he : starEach (e :: es) X.env = (false, eval e X.env) :: starEach es X.env := by rfl) (hpl : (backTo pos (starEach es X.env)).any (·.1) = false := by rfl) : GE X ρ M (.Call (.Name x p) (e :: es) [] pos) Q := .mk fun B F' H σ Q' W S' s => by
  intro pins st I
  refine wpAny_Call_Name_kw (ld_glob I hg hm ?_ hdb)
  have z := h B F' H σ (fun vs H1 => spG S vs H1 Q' E0) W S' fun rs M1 vs F1 H1 hx W1 s1 vx => by
    obtain ⟨Ma, Mr, hp, hs⟩ := hx
    exact toSp W1 hp vx hs (s.mono s1)
  refine PySem.W.callWith_K (h₀ := X.base) I.ok.mod.kin hk (thn (z pos pins st I) fun us s1 hh => ?_) he hpl
  obtain ⟨vs, H1, I1, r, q⟩ := hh
  refine ⟨I1.kIn, ?_⟩
  have hl : (us ++ []).length = ps.length := by
    rw [List.append_nil, ← r.length]
    exact spG_len F q
  have hb' := hb s1 us I1.kIn hl
  rw [List.append_nil] at hb'
  exact runG (args := ⟨us, []⟩) F hgd hr hb' I1 r q
theorem gcall0 {x : Str} {p : Pos} (F : FnG X.prog X.w X.K X.mg X.base k f fd ps S) (hgd : X.A.guards = some []) (hr : Room k X.A) (hm : X.mg x = some (.ref f)) (hk : PySem.W.keepIn X.K (.ref f) = true) (hb : Binds X.K fd ps [])
    (h : S [] [] fun r M' => Q r (M' ++ M)) (hg : Gl X x := by rfl) (hdb : (x == ("__debug__" : Str)) = false := by decide) : GE X ρ M (.Call (.Name x p) [] [] pos) Q := .mk fun B F' H σ Q' W S' s => by
  intro pins st I
  refine wpAny_Call_Name_kw (ld_glob I hg hm ?_ hdb)
  have q : spG S [] H Q' E0 := toSp (Ma := []) W (List.Perm.refl _) .nil h s
  have hl : (([] : List Value) ++ []).length = ps.length := spG_len F q
  have hb' := hb st [] I.kIn hl
  exact PySem.W.callWith_K0 I.kIn hk (runG (args := ⟨[], []⟩) (us := []) F hgd hr hb' I .nil q)
/-- f(k = e, ..): the keywords alone; g puts their values in the parameters' order -/
structure KwB (K : PySem.W.Frag) (fd : FuncData) (ps ks : List Str) (g : {α : Type} → List α → List α) : Prop where
  to : ∀ (s : Shared) (ws : List Value), K.In s.heap → ws.length = ks.length → BindsTo s fd ⟨[], ks.zip ws⟩ (ps.zip (g ws))
  rel : ∀ {α β : Type} {R : α → β → Prop} {xs : List α} {ys : List β}, xs.length = ks.length → Paired R xs ys → Paired R (g xs) (g ys)
theorem gcallK {x : Str} {p : Pos} {ks : List Str} {kw : Keyword} {kws : List Keyword} {g : {α : Type} → List α → List α} (F : FnG X.prog X.w X.K X.mg X.base k f fd ps S) (hgd : X.A.guards = some []) (hr : Room k X.A) (hm : X.mg x = some (.ref f)) (hk : PySem.W.keepIn X.K (.ref f) = true) (hb : KwB X.K fd ps ks g)
    (h : GK X ρ M (kw :: kws) fun rs M1 => rs.length = ks.length ∧ ∃ Ma Mr, M1.Perm (Ma ++ Mr) ∧ S (g rs) Ma fun r M' => Q r (M' ++ Mr)) (hg : Gl X x := by rfl) (hdb : (x == ("__debug__" : Str)) = false := by decide)
    (hall : (backToKw pos (keywordEach (kw :: kws) X.env)).all (·.1.isSome) = true := by rfl) (hks : (backToKw pos (keywordEach (kw :: kws) X.env)).filterMap (·.1) = ks := by rfl)
    (hpl : ((backTo pos (starEach [] X.env)).any (·.1) || (backToKw pos (keywordEach (kw :: kws) X.env)).any (·.1.isNone)) = false := by rfl) : GE X ρ M (.Call (.Name x p) [] (kw :: kws) pos) Q := .mk fun B F' H σ Q' W S' s => by
  intro pins st I
  refine wpAny_Call_Name_kw (ld_glob I hg hm ?_ hdb)
  have z := h B F' H σ (fun vs H1 => vs.length = ks.length ∧ spG S (g vs) H1 Q' E0) W S' fun rs M1 vs F1 H1 hx W1 s1 vx => by
    obtain ⟨hl, Ma, Mr, hp, hs⟩ := hx
    have hl' : vs.length = ks.length := (Paired.length vx).trans hl
    exact ⟨hl', toSp W1 hp (hb.rel hl' vx) hs (s.mono s1)⟩
  refine PySem.W.callWith_KW0 (h₀ := X.base) I.ok.mod.kin hk hall (thn (z pos pins st I) fun us s1 hh => ?_) hpl
  obtain ⟨vs, H1, I1, r, hl, q⟩ := hh
  refine ⟨I1.kIn, ?_⟩
  rw [hks]
  have hl' : us.length = ks.length := r.length.symm.trans hl
  exact runG (args := ⟨[], ks.zip us⟩) F hgd hr (hb.to s1 us I1.kIn hl') I1 (hb.rel hl r) q
end

/-- THE RULE for a def: its body, from its arguments -/
theorem paired_start {F : Hp} {N : List Str} {vs : List V} {rs : List SD} (h : Paired (VOk F) vs rs) : Paired (SOk F) (L2.start N vs) (rs ++ List.replicate (N.length - rs.length) .un) := by
  unfold L2.start
  rw [Paired.length h]
  have rep : ∀ n : Nat, Paired (SOk F) (List.replicate n none) (List.replicate n .un) := by
    intro n
    induction n with
    | zero => exact .nil
    | succ n ih => exact .cons SOk.un ih
  generalize N.length - rs.length = n
  induction h with
  | nil => exact rep n
  | cons x y ih => exact .cons x ih
abbrev bodyX (P : Program) (w : World) (K : PySem.W.Frag) (mg : Str → Option Value) (base : Heap) (N : List Str) (qual : Str) (st : Stmt) (f : Addr) (cdv : Value) (A : Around) (outer : List Env) (s : Shared) (H : Hp) : Cx :=
  (cxOf CX0 P w K mg base N qual (defScope st) f cdv A outer s H E0).nox
abbrev bodyD (Kk : Kn) : GD := ⟨fun _ M' => Kk (.pu .none) M', Kk, fun _ _ => False, fun _ _ => False⟩
section
variable {P : Program} {w : World} {K : PySem.W.Frag} {mg : Str → Option Value} {base : Heap}
theorem fnG {x qual : Str} {st : Stmt} {f : Addr} {fd : FuncData} {N ps : List Str} {k : Nat} {S : GSpec} (F : Fun K x qual st f fd) (Sc : FnScope N ps (defScope st)) (len : ∀ rs M Kk, S rs M Kk → rs.length = ps.length)
    (body : ∀ (cdv : Value) (A : Around) (outer : List Env) (s : Shared) (H : Hp), A.guards = some [] → Room k (A.deeper (envOfC qual (defScope st) s.heap.objs.size f cdv)) →
      ∀ rs M Kk, S rs M Kk → GB (bodyX P w K mg base N qual st f cdv A outer s H) (rs ++ List.replicate (N.length - rs.length) .un) M (defBody st) (bodyD Kk)) :
    FnG P w K mg base (k + 1) f fd ps S := by
  obtain ⟨oc, od, kV, doc, pm, an, cdv, ct, osl, rfl, lk, hcd⟩ := F.ex
  refine ⟨len, fun A outer s H args us vs Q hgd hr e0 hb r hsp => ?_⟩
  obtain ⟨F', rs, M', Kk, hv, W, hS, sat⟩ := hsp
  have hl : vs.length = ps.length := by
    rw [Paired.length hv]
    exact len _ _ _ hS
  have old : ∀ b o, base.get? b = some o → s.heap.get? b = some o := fun b o q => (e0.bs b o q).1
  have KX : K.In s.heap := e0.mod.kin.keeps old
  have lim : s.heap.NoLimit := e0.mod.nolimit.keeps old
  have hkd : ∀ y ∈ ps.zip us, (defScope st).names.lookup y.1 = some .local ∨
      ((defScope st).names.lookup y.1 = some .cell ∧ ((cellsFrom (s.heap.objs.size + 1) (defScope st).names []).lookup y.1).isSome = true) := by
    rintro ⟨n, v⟩ hy
    rcases Sc.par n (List.of_mem_zip hy).1 with q | q
    · left
      exact q
    · right
      exact ⟨q, PySem.W.cellsFrom_some _ _ _ (.inl q)⟩
  refine codeAny_call_function hr.depth (KX _ _ lk) rfl Sc.co Sc.gen rfl (PySem.W.codeRec_of KX hcd) (hb _ _ _ _ ?_)
  refine wpAny_newFunctionEnv_cells Sc.kind hkd fun env he s1 hx => ?_
  subst he
  refine ⟨lim.keeps hx.toInCall.keep, codeAny_func ?_⟩
  have I := inv_start (CX := CX0) (E := E0) Sc hr.hd e0 hl r hx
  have G0 := body cdv A outer s H hgd (hr.deeper _) rs M' Kk hS
  have satS : SatS (here F' H M') F' (bodyD Kk) { nx := fun _ H' => Q .non H', rt := Q } := by
    refine ⟨?_, sat, fun _ _ _ _ _ q => False.elim q, fun _ _ _ _ _ q => False.elim q⟩
    intro ρ M2 σ F2 H2 q W2 s2 _
    exact sat _ M2 .non F2 H2 q W2 s2 .non
  have ran := G0 _ F' H (L2.start N vs) _ W (paired_start hv) satS [] s1 (I.wish _)
  have fin : ∀ {s' : Shared} {σ' : L2.St} {H' : Hp} {v : V} {u : Value}, Inv (bodyX P w K mg base N qual st f cdv A outer s H) [] σ' H' s' → RelV v u → Q v H' → CE outer P w H s Q u s' := by
    intro s' σ' H' v u J rv q
    exact ⟨v, H', J.os, J.bare, J.base, J.hok, rv, q⟩
  refine wpAny_mono ran (fun fl s' hs => ?_) fun e s' hs => False.elim hs
  match fl, hs with
  | .ret u, hs =>
    obtain ⟨v, σ', H', J, rv, q⟩ := hs
    exact fin J rv q
  | .next, hs =>
    obtain ⟨σ', H', J, q⟩ := hs
    exact fin (v := V.non) (u := Value.none) J rfl q
  | .brk, hs =>
    obtain ⟨_, _, _, q⟩ := hs
    exact False.elim q
  | .cont, hs =>
    obtain ⟨_, _, _, q⟩ := hs
    exact False.elim q
end
end G

namespace G
open PySem PySem.Spec PyProof.Rows L2
section
variable {X : Cx} {ρ : List SD} {M : Mem} {Q : Kn} {QT : Bool → Mem → Prop} {QN : List SD → Mem → Prop} {D : GD} {pos : Pos} {a b c e tg it : Expr} {es ts : List Expr} {st : Stmt} {sts body : List Stmt}

/-! ### blocks, small statements -/
theorem bnil (q : D.nx ρ M) : GB X ρ M [] D := .mk fun B F H σ D' W S s => wB_of pss_nil (s.nx _ _ _ F H q W (Same.refl F) S)
theorem bcons (h : GS X ρ M st { D with nx := fun ρ1 M1 => GB X ρ1 M1 sts D }) : GB X ρ M (st :: sts) D := .mk fun B F H σ D' W S s =>
  wB_of (pss_cons pS pB) (h B F H σ _ W S ⟨fun ρ1 M1 σ1 F1 H1 q W1 s1 S1 => (show GB X ρ1 M1 sts D from q) B F1 H1 σ1 D' W1 S1 (s.mono s1), s.rt, s.bk, s.ct⟩)
theorem bone (h : GS X ρ M st D) : GB X ρ M [st] D := .mk fun B F H σ D' W S s => wB_of (pss_one pS) (h B F H σ D' W S s)
theorem GB.mono {D2 : GD} (h : GB X ρ M sts D2) (h1 : ∀ ρ' M', D2.nx ρ' M' → D.nx ρ' M') (h2 : ∀ r M', D2.rt r M' → D.rt r M') (h3 : ∀ ρ' M', D2.bk ρ' M' → D.bk ρ' M') (h4 : ∀ ρ' M', D2.ct ρ' M' → D.ct ρ' M') : GB X ρ M sts D := .mk fun B F H σ D' W S s =>
  h B F H σ D' W S ⟨fun ρ1 M1 σ1 F1 H1 q => s.nx ρ1 M1 σ1 F1 H1 (h1 _ _ q), fun ρ1 M1 σ1 F1 H1 q => s.rt ρ1 M1 σ1 F1 H1 (h2 _ _ q), fun ρ1 M1 σ1 F1 H1 q => s.bk ρ1 M1 σ1 F1 H1 (h3 _ _ q), fun ρ1 M1 σ1 F1 H1 q => s.ct ρ1 M1 σ1 F1 H1 (h4 _ _ q)⟩
theorem spass (q : D.nx ρ M) : GS X ρ M (.Pass pos) D := .mk fun B F H σ D' W S s => wS_of ps_pass (s.nx _ _ _ F H q W (Same.refl F) S)
theorem sbreak (q : D.bk ρ M) : GS X ρ M (.Break pos) D := .mk fun B F H σ D' W S s => wS_of ps_break (s.bk _ _ _ F H q W (Same.refl F) S)
theorem scont (q : D.ct ρ M) : GS X ρ M (.Continue pos) D := .mk fun B F H σ D' W S s => wS_of ps_continue (s.ct _ _ _ F H q W (Same.refl F) S)
theorem sexpr (h : GE X ρ M e fun _ M1 => D.nx ρ M1) (hs : swapsWith e none pos.line X.env = pure false := by rfl) : GS X ρ M (.Expr e pos) D := .mk fun B F H σ D' W S s =>
  wS_of (ps_expr pE hs) (h B F H σ _ W S fun r M1 v F1 H1 q W1 s1 _ => s.nx _ _ _ F1 H1 q W1 s1 (pMono s1 S))
theorem sret (h : GE X ρ M e D.rt) : GS X ρ M (.Return (some e) pos) D := .mk fun B F H σ D' W S s => wS_of (ps_ret pE) (h B F H σ _ W S s.rt)
theorem sretN (q : D.rt (.pu .none) M) : GS X ρ M (.Return none pos) D := .mk fun B F H σ D' W S s => wS_of ps_retN (s.rt _ _ _ F H q W (Same.refl F) .non)
theorem sif {t u : List Stmt} (h : GT X ρ M c fun k M1 => if k = true then GB X ρ M1 t D else GB X ρ M1 u D) : GS X ρ M (.If c t u pos) D := .mk fun B F H σ D' W S s => by
  refine wS_of (ps_if pT pB pB) (h B F H σ _ W S fun k M1 F1 H1 hx W1 s1 => ?_)
  cases k with
  | true => exact iteT ((show GB X ρ M1 t D from hx) B F1 H1 σ D' W1 (pMono s1 S) (s.mono s1))
  | false => exact iteF ((show GB X ρ M1 u D from hx) B F1 H1 σ D' W1 (pMono s1 S) (s.mono s1))

/-! ### targets -/
theorem tgname (i : Nat) {x : Str} {r : SD} (q : QN (ρ.set i r) M) (hN : X.N.Nodup) (hi : X.N[i]? = some x := by rfl) (hx : Loc X.env.scope x := by first | exact Or.inl rfl | exact Or.inr rfl) (hf : X.fn x = true ∨ X.env.scope.names.lookup x = some .local := by first | exact .inl rfl | exact .inr rfl | assumption) :
    GG X ρ M (.Name x pos) r QN := .mk fun B F H σ v Q' W S vr s => wG_of (pg_name hN hi hx hf) (s _ _ _ F H q W (Same.refl F) (pset vr i S))
theorem tgsnil (q : QN ρ M) : GGs X ρ M [] [] QN := .mk fun B F H σ vs Q' W S vr s => wGs_of pgs_nil ⟨by cases vr; rfl, s _ _ _ F H q W (Same.refl F) S⟩
theorem tgscons {r : SD} {rs : List SD} (h : GG X ρ M e r fun ρ1 M1 => GGs X ρ1 M1 es rs QN) (hs : (assignEach (e :: es) X.env).map (·.2) = assign e X.env :: (assignEach es X.env).map (·.2) := by rfl) : GGs X ρ M (e :: es) (r :: rs) QN := .mk fun B F H σ vs Q' W S vr s => by
  cases vr with
  | cons v1 v2 =>
    refine wGs_of (pgs_cons pG pGs hs) ⟨_, _, rfl, h B F H σ _ _ W S v1 fun ρ1 M1 σ1 F1 H1 q W1 s1 S1 => ?_⟩
    exact (show GGs X ρ1 M1 es rs QN from q) B F1 H1 σ1 _ Q' W1 S1 (vMono s1 v2) (s.mono s1)
theorem tgtup {k : Nat} {ds : List PyData} {n : Nat} (hc : X.calm = true) (hl : ds.length = n) (h : GGs X ρ M es (ds.map .pu) QN) (hn : (assignEach es X.env).length = n := by rfl) (hst : (assignEach es X.env).findIdx? (·.1) = none := by rfl) : GG X ρ M (.Tuple es k pos) (.pu (.tuple ds)) QN := .mk fun B F H σ v Q' W S vr s => by
  have vr : Dt F v (.tuple ds) := vr
  cases vr with
  | tup h1 h2 => exact wG_of (pg_tup hc pGs hn hst) ⟨_, _, rfl, .of (W.fh _ _ h1), by rw [h2.length, hl], h B F H σ _ Q' W S (pair_pu h2) s⟩
/-- o[i] = .. of a list that may change -/
theorem tgsub {r : SD} (h : GE X ρ M a fun x M1 => GE X ρ M1 b fun y M2 => ∃ l i j xs Ma Mb, x = .rf (.ref l) ∧ y = .pu (.int i) ∧ M2 = Ma ++ (l, .lst xs) :: Mb ∧ ixN xs.length i = some j ∧ QN ρ (Ma ++ (l, .lst (xs.set j r)) :: Mb))
    (ha : ∀ v, assign (.Subscript a b pos) X.env v = (do
      let ov ← holding [v] (eval a X.env)
      let iv ← holding [v, ov] (eval b X.env)
      standAt pos
      holding [v, ov, iv] (setItem ov iv v)
      release [v, ov, iv] []) := by intro _; rfl) : GG X ρ M (.Subscript a b pos) r QN := .mk fun B F H σ v Q' W S vr s => by
  refine wG_of (pg_sub pE pE set_list ha) (h B F H σ _ W S fun x M1 v1 F1 H1 hx W1 s1 vx => ?_)
  refine hx B F1 H1 σ _ W1 (pMono s1 S) fun y M2 w F2 H2 hy W2 s2 wy => ?_
  obtain ⟨l, i, j, xs, Ma, Mb, rfl, rfl, rfl, hij, q⟩ := hy
  have wy : Dt F2 w (.int i) := wy
  cases wy
  have vx : v1 = .ref l := vx
  subst vx
  obtain ⟨f1, vs, f2, f3⟩ := W2.mem (l, .lst xs) (by simp)
  have hp : (Ma ++ (l, MO.lst xs) :: Mb).Perm ((l, MO.lst xs) :: (Ma ++ Mb)) := List.perm_middle
  have fs : ∀ {vs : List V} {xs : List SD} (j : Nat), Paired (VOk F2) vs xs → Paired (VOk F2) (vs.set j v) (xs.set j r) := by
    intro vs xs j h
    induction h generalizing j with
    | nil => exact .nil
    | cons x y ih =>
      cases j with
      | zero => exact .cons (vr.mono (s1.trans s2)) y
      | succ j => exact .cons x (ih j)
  have W3 := (W2.perm hp).write (ys := xs.set j r) (ws := vs.set j v) (fs j f3)
  refine ⟨l, vs, i, j, rfl, rfl, f2, by rw [Paired.length f3]; exact hij, ?_⟩
  exact s _ _ _ F2 _ q (W3.perm List.perm_middle.symm) (s1.trans s2) (pMono (s1.trans s2) S)
/-- target = value -/
theorem sasg (h : GE X ρ M e fun r M1 => GG X ρ M1 tg r D.nx) (hs : swapsWithSole [tg] e pos.line X.env = pure false := by rfl) (hw : swappedStores [tg] e X.env = pure none := by rfl) (h1 : (assignEach [tg] X.env).map (·.2) = [assign tg X.env] := by rfl) : GS X ρ M (.Assign [tg] e pos) D := .mk fun B F H σ D' W S s =>
  wS_of (ps_asg pE pG hs hw h1) (h B F H σ _ W S fun r M1 v F1 H1 q W1 s1 vv => (show GG X ρ M1 tg r D.nx from q) B F1 H1 σ v _ W1 (pMono s1 S) vv (s.nx.mono s1))
/-- name = value -/
theorem sset (i : Nat) {x : Str} {pos' : Pos} (hN : X.N.Nodup) (h : GE X ρ M e fun r M1 => D.nx (ρ.set i r) M1) (hi : X.N[i]? = some x := by rfl) (hx : Loc X.env.scope x := by first | exact Or.inl rfl | exact Or.inr rfl) (hs : swapsWith e (some (.Name x pos')) pos.line X.env = pure false := by rfl) (hf : X.fn x = true ∨ X.env.scope.names.lookup x = some .local := by first | exact .inl rfl | exact .inr rfl | assumption) :
    GS X ρ M (.Assign [.Name x pos'] e pos) D := .mk fun B F H σ D' W S s =>
  wS_of (ps_set hN hi hx pE hs hf) (h B F H σ _ W S fun r M1 v F1 H1 q W1 s1 vv => s.nx _ _ _ F1 H1 q W1 s1 (pset vv i (pMono s1 S)))
/-- name += e of ints -/
theorem saug (i : Nat) {x : Str} {pos' : Pos} {n : Int} (hN : X.N.Nodup) (hr : ρ[i]? = some (.pu (.int n))) (h : GE X ρ M e fun r M1 => ∃ j, r = .pu (.int j) ∧ D.nx (ρ.set i (.pu (.int (n + j)))) M1) (hi : X.N[i]? = some x := by rfl) (hx : Loc X.env.scope x := by first | exact Or.inl rfl | exact Or.inr rfl) (hf : X.fn x = true ∨ X.env.scope.names.lookup x = some .local := by first | exact .inl rfl | exact .inr rfl | assumption) :
    GS X ρ M (.AugAssign (.Name x pos') .Add e pos) D := .mk fun B F H σ D' W S s => by
  obtain ⟨o, e1, e2⟩ := pget S hr
  obtain ⟨v, e3, e4⟩ := e2.isV rfl
  subst e3
  have e4 : Dt F v (.int n) := e4
  cases e4
  refine wS_of (ps_aug hN hi hx pE ip_add hf) ⟨_, e1, h B F H σ _ W S fun r M1 v F1 H1 q W1 s1 vv => ?_⟩
  obtain ⟨j, rfl, q⟩ := q
  have vv : Dt F1 v (.int j) := vv
  cases vv
  exact ⟨n, j, rfl, rfl, s.nx _ _ _ F1 H1 q W1 s1 (pset (show SOk F1 (some (V.int _)) (.pu (.int _)) from Dt.int _) i (pMono s1 S))⟩
theorem saugs (i : Nat) {x : Str} {pos' : Pos} {n : Int} (hN : X.N.Nodup) (hr : ρ[i]? = some (.pu (.int n))) (h : GE X ρ M e fun r M1 => ∃ j, r = .pu (.int j) ∧ D.nx (ρ.set i (.pu (.int (n - j)))) M1) (hi : X.N[i]? = some x := by rfl) (hx : Loc X.env.scope x := by first | exact Or.inl rfl | exact Or.inr rfl) (hf : X.fn x = true ∨ X.env.scope.names.lookup x = some .local := by first | exact .inl rfl | exact .inr rfl | assumption) :
    GS X ρ M (.AugAssign (.Name x pos') .Sub e pos) D := .mk fun B F H σ D' W S s => by
  obtain ⟨o, e1, e2⟩ := pget S hr
  obtain ⟨v, e3, e4⟩ := e2.isV rfl
  subst e3
  have e4 : Dt F v (.int n) := e4
  cases e4
  refine wS_of (ps_aug hN hi hx pE ip_sub hf) ⟨_, e1, h B F H σ _ W S fun r M1 v F1 H1 q W1 s1 vv => ?_⟩
  obtain ⟨j, rfl, q⟩ := q
  have vv : Dt F1 v (.int j) := vv
  cases vv
  exact ⟨n, j, rfl, rfl, s.nx _ _ _ F1 H1 q W1 s1 (pset (show SOk F1 (some (V.int _)) (.pu (.int _)) from Dt.int _) i (pMono s1 S))⟩

/-! ### methods of lists that may change -/
/-- xs.append(e) -/
theorem gapp {o : Expr} {apos cpos : Pos} (h : GE X ρ M o fun x M1 => ∃ l xs0, x = .rf (.ref l) ∧ (l, MO.lst xs0) ∈ M1 ∧ GE X ρ M1 e fun y M2 => ∃ xs Ma Mb, M2 = Ma ++ (l, .lst xs) :: Mb ∧ xs.length < 100000 ∧ Q (.pu .none) (Ma ++ (l, .lst (xs ++ [y])) :: Mb))
    (hbase : attributeBase o "append" X.env (eval o X.env) = eval o X.env := by rfl)
    (hfew : ((backTo cpos (starEach [e] X.env)).all (fun x => !x.1) && (backToKw cpos (keywordEach [] X.env)).all (fun x => x.1.isSome)
      && decide (([e] : List Expr).length + ([] : List Keyword).length + (if ([] : List Keyword).isEmpty then 0 else 1) < 30)) = true := by rfl)
    (hline : (apos.endLine == cpos.line) = true := by rfl) (hs : starEach [e] X.env = [(false, eval e X.env)] := by rfl) (hplain : (backTo cpos (starEach [] X.env)).any (·.1) = false := by rfl) :
    GE X ρ M (.Call (.Attribute o "append" apos) [e] [] cpos) Q := .mk fun B F H σ Q' W S s => by
  refine wE_of (pe_bm PySem.F.plainAttrs_list PySem.F.slot_list_append PySem.F.type_list_append mt_append pE pA hbase hfew hline hs hplain) (h B F H σ _ W S fun x M1 v F1 H1 hx W1 s1 vx => ?_)
  obtain ⟨l, xs0, rfl, hm, hx⟩ := hx
  have vx : v = .ref l := vx
  subst vx
  obtain ⟨f1, vs0, f2, f3⟩ := W1.mem _ hm
  refine ⟨.inl ⟨rfl, _, .of f2⟩, ?_⟩
  refine wA_of (pa_cons pE pa_nil hs) (hx B F1 H1 σ _ W1 (pMono s1 S) fun y M2 w F2 H2 hy W2 s2 wy => ?_)
  obtain ⟨xs, Ma, Mb, rfl, hl, q⟩ := hy
  obtain ⟨g1, vs, g2, g3⟩ := W2.mem (l, .lst xs) (by simp)
  have W3 := (W2.perm List.perm_middle).write (ys := xs ++ [y]) (ws := vs ++ [w]) (paired_app g3 (.cons wy .nil))
  refine ⟨l, vs, w, rfl, rfl, g2, by rw [Paired.length g3]; exact Nat.lt_of_lt_of_le hl (by decide), ?_⟩
  exact s _ _ _ F2 _ q (W3.perm List.perm_middle.symm) (s1.trans s2) .non
theorem paired_erase {F : Hp} : ∀ {vs : List V} {xs : List SD} (k : Nat), Paired (VOk F) vs xs → Paired (VOk F) (vs.eraseIdx k) (xs.eraseIdx k)
  | _, _, _, .nil => .nil
  | _, _, 0, .cons _ b => b
  | _, _, k + 1, .cons a b => .cons a (paired_erase k b)
/-- xs.pop(i), 0 ≤ i -/
theorem gpop {o : Expr} {apos cpos : Pos} (h : GE X ρ M o fun x M1 => ∃ l xs0, x = .rf (.ref l) ∧ (l, MO.lst xs0) ∈ M1 ∧ GE X ρ M1 e fun y M2 => ∃ (k : Nat) (r : SD) (xs : List SD) (Ma Mb : Mem), y = .pu (.int (k : Int)) ∧ M2 = Ma ++ (l, .lst xs) :: Mb ∧ k < 100000 ∧ xs[k]? = some r ∧ Q r (Ma ++ (l, .lst (xs.eraseIdx k)) :: Mb))
    (hbase : attributeBase o "pop" X.env (eval o X.env) = eval o X.env := by rfl)
    (hfew : ((backTo cpos (starEach [e] X.env)).all (fun x => !x.1) && (backToKw cpos (keywordEach [] X.env)).all (fun x => x.1.isSome)
      && decide (([e] : List Expr).length + ([] : List Keyword).length + (if ([] : List Keyword).isEmpty then 0 else 1) < 30)) = true := by rfl)
    (hline : (apos.endLine == cpos.line) = true := by rfl) (hs : starEach [e] X.env = [(false, eval e X.env)] := by rfl) (hplain : (backTo cpos (starEach [] X.env)).any (·.1) = false := by rfl) :
    GE X ρ M (.Call (.Attribute o "pop" apos) [e] [] cpos) Q := .mk fun B F H σ Q' W S s => by
  refine wE_of (pe_bm PySem.F.plainAttrs_list PySem.F.slot_list_pop PySem.F.type_list_pop mt_popAt pE pA hbase hfew hline hs hplain) (h B F H σ _ W S fun x M1 v F1 H1 hx W1 s1 vx => ?_)
  obtain ⟨l, xs0, rfl, hm, hx⟩ := hx
  have vx : v = .ref l := vx
  subst vx
  obtain ⟨f1, vs0, f2, f3⟩ := W1.mem _ hm
  refine ⟨.inl ⟨rfl, _, .of f2⟩, ?_⟩
  refine wA_of (pa_cons pE pa_nil hs) (hx B F1 H1 σ _ W1 (pMono s1 S) fun y M2 w F2 H2 hy W2 s2 wy => ?_)
  obtain ⟨k, r, xs, Ma, Mb, rfl, rfl, hk, hr, q⟩ := hy
  have wy : Dt F2 w (.int (k : Int)) := wy
  cases wy
  obtain ⟨g1, vs, g2, g3⟩ := W2.mem (l, .lst xs) (by simp)
  obtain ⟨u, u1, u2⟩ := paired_at g3 hr
  have W3 := (W2.perm List.perm_middle).write (ys := xs.eraseIdx k) (ws := vs.eraseIdx k) (paired_erase k g3)
  have hkl : k < vs.length := (List.getElem?_eq_some_iff.mp u1).1
  have hix : seqIndex? (k : Int) vs.length = some k := (ixN_seq (n := vs.length) (i := (k : Int)) (j := k) (by
    unfold ixN
    rw [if_pos (by omega), if_pos (by omega)]
    simp)).1
  refine ⟨l, vs, (k : Int), k, u, rfl, rfl, g2, by omega, by omega, hix, u1, ?_⟩
  exact s _ _ _ F2 _ q (W3.perm List.perm_middle.symm) (s1.trans s2) u2

/-! ### iterators -/
theorem ilist (h : GE X ρ M e fun x M1 => ∃ ds R, x = .pu (.list ds) ∧ R = SD.un ∧ ∀ QI : Nat → (Nat → SD) → Mem → Prop, True) : True := trivial
variable {QI : Nat → (Nat → SD) → Mem → Prop}
def nth (ds : List PyData) (i : Nat) : SD := match ds[i]? with
  | some d => .pu d
  | none => .un
theorem nth_get {ds : List PyData} {i : Nat} {d : PyData} (h : ds[i]? = some d) : nth ds i = .pu d := by
  unfold nth
  rw [h]
theorem git_list {K : PySem.W.Frag} {F : Hp} {a : Addr} {vs : List V} {ds : List PyData} (h : F a = some (.lst vs)) (hd : DtA F vs ds) : GIt F (Itl K a) ds.length (nth ds) where
  go := fun i F' H s1 s2 hi => by
    have hv : i < vs.length := by
      rw [hd.length]
      exact hi
    exact ⟨vs, vs[i], .of (s2 _ _ (s1 _ _ h)), List.getElem?_eq_getElem hv⟩
  stop := fun F' H s1 s2 => ⟨vs, .of (s2 _ _ (s1 _ _ h)), by rw [hd.length]; exact Nat.le_refl _⟩
  yld := fun i B F' H M x H' hi s1 W y => by
    obtain ⟨rfl, y⟩ := y
    have g := y vs (.of (W.fh _ _ (s1 _ _ h)))
    have hi2 : ds[i]? = some ds[i] := List.getElem?_eq_getElem hi
    obtain ⟨v, e1, e2⟩ := hd.get hi2
    have e : v = x := Option.some.inj (e1.symm.trans g)
    subst e
    refine ⟨F', Same.refl F', W, ?_⟩
    rw [nth_get hi2]
    exact Dt.mono s1 e2
theorem iglist (h : GE X ρ M e fun x M1 => ∃ ds, x = .pu (.list ds) ∧ QI ds.length (nth ds) M1) : GI X ρ M tg e QI := .mk fun B F H σ R' W S s => by
  refine wI_of (pi_list pE) (h B F H σ _ W S fun x M1 v F1 H1 hx W1 s1 vx => ?_)
  obtain ⟨ds, rfl, q⟩ := hx
  have vx : Dt F1 v (.list ds) := vx
  cases vx with
  | lst h1 h2 => exact ⟨_, rfl, ⟨_, .of (W1.fh _ _ h1)⟩, s _ _ M1 _ F1 H1 q W1 s1 (git_list h1 h2)⟩
theorem git_tup {K : PySem.W.Frag} {F : Hp} {a : Addr} {vs : List V} {ds : List PyData} (h : F a = some (.tup vs)) (hd : DtA F vs ds) : GIt F (Itt K a) ds.length (nth ds) where
  go := fun i F' H s1 s2 hi => by
    have hv : i < vs.length := by
      rw [hd.length]
      exact hi
    exact ⟨vs, vs[i], .of (s2 _ _ (s1 _ _ h)), List.getElem?_eq_getElem hv⟩
  stop := fun F' H s1 s2 => ⟨vs, .of (s2 _ _ (s1 _ _ h)), by rw [hd.length]; exact Nat.le_refl _⟩
  yld := fun i B F' H M x H' hi s1 W y => by
    obtain ⟨rfl, y⟩ := y
    have g := y vs (.of (W.fh _ _ (s1 _ _ h)))
    have hi2 : ds[i]? = some ds[i] := List.getElem?_eq_getElem hi
    obtain ⟨v, e1, e2⟩ := hd.get hi2
    have e : v = x := Option.some.inj (e1.symm.trans g)
    subst e
    refine ⟨F', Same.refl F', W, ?_⟩
    rw [nth_get hi2]
    exact Dt.mono s1 e2
theorem igtup (h : GE X ρ M e fun x M1 => ∃ ds, x = .pu (.tuple ds) ∧ QI ds.length (nth ds) M1) : GI X ρ M tg e QI := .mk fun B F H σ R' W S s => by
  refine wI_of (pi_tup pE) (h B F H σ _ W S fun x M1 v F1 H1 hx W1 s1 vx => ?_)
  obtain ⟨ds, rfl, q⟩ := hx
  have vx : Dt F1 v (.tuple ds) := vx
  cases vx with
  | tup h1 h2 => exact ⟨_, rfl, ⟨_, .of (W1.fh _ _ h1)⟩, s _ _ M1 _ F1 H1 q W1 s1 (git_tup h1 h2)⟩
theorem git_rng {F : Hp} {lo : Int} {n : Nat} : GIt F (Itr lo n) n (fun i => .pu (.int (lo + (i : Int)))) where
  go := fun i F' H s1 s2 hi => hi
  stop := fun F' H s1 s2 => Nat.le_refl n
  yld := fun i B F' H M x H' hi s1 W y => by
    obtain ⟨rfl, rfl⟩ := y
    exact ⟨F', Same.refl F', W, .int _⟩
theorem git_rngC {F : Hp} {lo c : Int} {n : Nat} : GIt F (Itc lo c n) n (fun i => .pu (.int (lo + (i : Int) * c))) where
  go := fun i F' H s1 s2 hi => hi
  stop := fun F' H s1 s2 => Nat.le_refl n
  yld := fun i B F' H M x H' hi s1 W y => by
    obtain ⟨rfl, rfl⟩ := y
    exact ⟨F', Same.refl F', W, .int _⟩
/-- range(n) -/
theorem igr1 {p : Pos} (hm : X.mg "range" = none) (h : GE X ρ M a fun x M1 => ∃ n, x = .pu (.int n) ∧ n < 2 ^ 62 ∧ -(2 ^ 62) ≤ n ∧ QI n.toNat (fun i => .pu (.int (i : Int))) M1) (hg : Gl X "range" := by rfl) (hs : starEach [a] X.env = [(false, eval a X.env)] := by rfl) : GI X ρ M tg (.Call (.Name "range" p) [a] [] pos) QI := .mk fun B F H σ R' W S s => by
  refine wI_of (pi_range1 hg hm pA hs) (wA_of (pa_cons pE pa_nil hs) (h B F H σ _ W S fun x M1 v F1 H1 hx W1 s1 vx => ?_))
  obtain ⟨n, rfl, h1, h2, q⟩ := hx
  have vx : Dt F1 v (.int n) := vx
  cases vx
  refine ⟨n, rfl, by omega, by omega, s _ _ M1 _ F1 H1 q W1 s1 ?_⟩
  have z := git_rng (F := F1) (lo := 0) (n := n.toNat)
  have e : (fun i : Nat => SD.pu (.int ((0 : Int) + (i : Int)))) = fun i : Nat => SD.pu (.int (i : Int)) := by
    funext i
    rw [Int.zero_add]
  rw [e] at z
  exact z
/-- range(lo, n) -/
theorem igr2 {p : Pos} (hm : X.mg "range" = none) (h : GE X ρ M a fun x M1 => ∃ lo, x = .pu (.int lo) ∧ GE X ρ M1 b fun y M2 => ∃ n, y = .pu (.int n) ∧ (lo < 2 ^ 62 ∧ -(2 ^ 62) ≤ lo ∧ n < 2 ^ 62 ∧ -(2 ^ 62) ≤ n) ∧ QI (n - lo).toNat (fun i => .pu (.int (lo + (i : Int)))) M2)
    (hg : Gl X "range" := by rfl) (hs : starEach [a, b] X.env = [(false, eval a X.env), (false, eval b X.env)] := by rfl) (hs2 : starEach [b] X.env = [(false, eval b X.env)] := by rfl) : GI X ρ M tg (.Call (.Name "range" p) [a, b] [] pos) QI := .mk fun B F H σ R' W S s => by
  refine wI_of (pi_range2 hg hm pA hs hs2) (wA_of (pa_cons pE (pa_cons pE pa_nil hs2) (by rw [hs, hs2])) (h B F H σ _ W S fun x M1 v F1 H1 hx W1 s1 vx => ?_))
  obtain ⟨lo, rfl, hx⟩ := hx
  have vx : Dt F1 v (.int lo) := vx
  cases vx
  refine hx B F1 H1 σ _ W1 (pMono s1 S) fun y M2 w F2 H2 hy W2 s2 wy => ?_
  obtain ⟨n, rfl, hb, q⟩ := hy
  have wy : Dt F2 w (.int n) := wy
  cases wy
  exact ⟨lo, n, rfl, ⟨by omega, by omega, by omega, by omega⟩, s _ _ M2 _ F2 H2 q W2 (s1.trans s2) git_rng⟩
/-- a pair that is handed out anew: enumerate, zip -/
def enu (ds : List PyData) (i : Nat) : SD := match ds[i]? with | some d => .pu (.tuple [.int (i : Int), d]) | none => .un
theorem enu_at {ds : List PyData} {i : Nat} (h : i < ds.length) : enu ds i = .pu (.tuple [.int (i : Int), ds[i]]) := by
  unfold enu
  rw [List.getElem?_eq_getElem h]
def zpp (ds es : List PyData) (i : Nat) : SD := match ds[i]?, es[i]? with | some d, some d' => .pu (.tuple [d, d']) | _, _ => .un
theorem zpp_at {ds es : List PyData} {i : Nat} (h : i < ds.length) (h' : i < es.length) : zpp ds es i = .pu (.tuple [ds[i], es[i]]) := by
  unfold zpp
  rw [List.getElem?_eq_getElem h, List.getElem?_eq_getElem h']
theorem git_enum {K : PySem.W.Frag} {F : Hp} {a : Addr} {vs : List V} {ds : List PyData} (h : F a = some (.lst vs)) (hd : DtA F vs ds) : GIt F (Ite K a) ds.length (enu ds) where
  go := fun i F' H s1 s2 hi => (walk_enum (K := K) (a := a) (xs := vs)).goes i H (by rw [hd.length]; exact hi) (.of (s2 _ _ (s1 _ _ h)))
  stop := fun F' H s1 s2 => by
    have z := (walk_enum (K := K) (a := a) (xs := vs)).stops H (.of (s2 _ _ (s1 _ _ h)))
    rw [hd.length] at z
    exact z
  yld := fun i B F' H M x H' hi s1 W y => by
    obtain ⟨T, u, v, rfl, hT, rfl, e1, e2⟩ := (walk_enum (K := K) (a := a) (xs := vs)).yields i H x H' (by rw [hd.length]; exact hi) (.of (W.fh _ _ (s1 _ _ h))) y
    have hi2 : ds[i]? = some ds[i] := List.getElem?_eq_getElem hi
    obtain ⟨v', g1, g2⟩ := hd.get hi2
    have e : v = v' := Option.some.inj (e2.symm.trans g1)
    subst e
    have e : V.int (i : Nat) = u := Option.some.inj e1
    subst e
    obtain ⟨W2, s2⟩ := W.froz (o := .tup [.int (i : Nat), v]) hT
    refine ⟨_, s2, W2, ?_⟩
    rw [enu_at hi]
    exact Dt.tup upd_same (.cons (.int _) (.cons (Dt.mono (s1.trans s2) g2) .nil))
theorem igenum {p tpos : Pos} {elts : List Expr} {kk : Nat} (hm : X.mg "enumerate" = none) (h : GE X ρ M e fun x M1 => ∃ ds, x = .pu (.list ds) ∧ QI ds.length (enu ds) M1) (hg : Gl X "enumerate" := by rfl) (hs : starEach [e] X.env = [(false, eval e X.env)] := by rfl) :
    GI X ρ M (.Tuple elts kk tpos) (.Call (.Name "enumerate" p) [e] [] pos) QI := .mk fun B F H σ R' W S s => by
  refine wI_of (pi_enum hg hm pA hs) (wA_of (pa_cons pE pa_nil hs) (h B F H σ _ W S fun x M1 v F1 H1 hx W1 s1 vx => ?_))
  obtain ⟨ds, rfl, q⟩ := hx
  have vx : Dt F1 v (.list ds) := vx
  cases vx with
  | lst h1 h2 => exact ⟨_, _, rfl, .of (W1.fh _ _ h1), s _ _ M1 _ F1 H1 q W1 s1 (git_enum h1 h2)⟩
theorem git_zip {K : PySem.W.Frag} {F : Hp} {a b : Addr} {vs ws : List V} {ds es : List PyData} (h : F a = some (.lst vs)) (hd : DtA F vs ds) (h' : F b = some (.lst ws)) (hd' : DtA F ws es) :
    GIt F (Itz K a b) (min ds.length es.length) (zpp ds es) where
  go := fun i F' H s1 s2 hi => (walk_zip (K := K) (a := a) (b := b) (xs := vs) (ys := ws) (n := min vs.length ws.length) rfl).goes i H (by rw [hd.length, hd'.length]; exact hi) ⟨.of (s2 _ _ (s1 _ _ h)), .of (s2 _ _ (s1 _ _ h'))⟩
  stop := fun F' H s1 s2 => by
    have z := (walk_zip (K := K) (a := a) (b := b) (xs := vs) (ys := ws) (n := min vs.length ws.length) rfl).stops H ⟨.of (s2 _ _ (s1 _ _ h)), .of (s2 _ _ (s1 _ _ h'))⟩
    rw [hd.length, hd'.length] at z
    exact z
  yld := fun i B F' H M x H' hi s1 W y => by
    obtain ⟨T, u, v, rfl, hT, rfl, e1, e2⟩ := (walk_zip (K := K) (a := a) (b := b) (xs := vs) (ys := ws) (n := min vs.length ws.length) rfl).yields i H x H' (by rw [hd.length, hd'.length]; exact hi) ⟨.of (W.fh _ _ (s1 _ _ h)), .of (W.fh _ _ (s1 _ _ h'))⟩ y
    have hi1 : ds[i]? = some (ds[i]'(by omega)) := List.getElem?_eq_getElem _
    have hi2 : es[i]? = some (es[i]'(by omega)) := List.getElem?_eq_getElem _
    obtain ⟨u', f1, f2⟩ := hd.get hi1
    obtain ⟨v', g1, g2⟩ := hd'.get hi2
    have e : u = u' := Option.some.inj (e1.symm.trans f1)
    subst e
    have e : v = v' := Option.some.inj (e2.symm.trans g1)
    subst e
    obtain ⟨W2, s2⟩ := W.froz (o := .tup [u, v]) hT
    refine ⟨_, s2, W2, ?_⟩
    rw [zpp_at (by omega) (by omega)]
    exact Dt.tup upd_same (.cons (Dt.mono (s1.trans s2) f2) (.cons (Dt.mono (s1.trans s2) g2) .nil))
theorem igzip {p tpos : Pos} {elts : List Expr} {kk : Nat} (hm : X.mg "zip" = none) (h : GE X ρ M a fun x M1 => ∃ ds, x = .pu (.list ds) ∧ GE X ρ M1 b fun y M2 => ∃ es, y = .pu (.list es) ∧ QI (min ds.length es.length) (zpp ds es) M2)
    (hg : Gl X "zip" := by rfl) (hs : starEach [a, b] X.env = (false, eval a X.env) :: starEach [b] X.env := by rfl) (hs2 : starEach [b] X.env = [(false, eval b X.env)] := by rfl) (hpl : (backTo pos (starEach [b] X.env)).any (·.1) = false := by rfl) :
    GI X ρ M (.Tuple elts kk tpos) (.Call (.Name "zip" p) [a, b] [] pos) QI := .mk fun B F H σ R' W S s => by
  refine wI_of (pi_zip hg hm pA hs hpl) (wA_of (pa_cons pE (pa_cons pE pa_nil hs2) hs) (h B F H σ _ W S fun x M1 v F1 H1 hx W1 s1 vx => ?_))
  obtain ⟨ds, rfl, hx⟩ := hx
  refine hx B F1 H1 σ _ W1 (pMono s1 S) fun y M2 w F2 H2 hy W2 s2 wy => ?_
  obtain ⟨es, rfl, q⟩ := hy
  have vx : Dt F2 v (.list ds) := vx.mono s2
  have wy : Dt F2 w (.list es) := wy
  cases vx with
  | lst h1 h2 =>
    cases wy with
    | lst g1 g2 => exact ⟨_, _, _, _, rfl, .of (W2.fh _ _ h1), .of (W2.fh _ _ g1), s _ _ M2 _ F2 H2 q W2 (s1.trans s2) (git_zip h1 h2 g1 g2)⟩

/-! ### for, while -/
theorem sfor (hp : PassesOwn (model X.prog X.w) X.A X.env X.xe) (hc : X.calm = true)
    (h : GI X ρ M tg it fun n item M1 => ∃ Pv : Nat → List SD → Mem → Prop, Pv 0 ρ M1 ∧ (∀ i ρ' M', i < n → Pv i ρ' M' → GG X ρ' M' tg (item i) fun ρ2 M2 => GB X ρ2 M2 body ⟨Pv (i + 1), D.rt, D.nx, Pv (i + 1)⟩) ∧ ∀ ρ' M', Pv n ρ' M' → D.nx ρ' M')
    (hs : ∀ x, foldedSetIterable it X.env x = pure x := by intro _; rfl) : GS X ρ M (.For tg it body [] pos) D := .mk fun B F H σ D' W S s => by
  refine wS_of (ps_for hp hc pI pG pB hs) (h B F H σ _ W S fun n item M1 J F1 H1 hx W1 s1 gi => ?_)
  obtain ⟨Pv, p0, turn, fin⟩ := hx
  refine ⟨fun i m σ' H' => i + m = n ∧ ∃ ρ' M' F', Pv i ρ' M' ∧ Wd B F' H' M' ∧ Same F1 F' ∧ Paired (SOk F') σ' ρ', ⟨n, Nat.zero_add n, ρ, M1, F1, p0, W1, Same.refl F1, pMono s1 S⟩, ?_⟩
  rintro i m σ' H' ⟨him, ρ', M', F', pv, W', s', S'⟩
  by_cases hi : i < n
  · refine .inr ⟨gi.go i F' H' s' W'.fh hi, fun σ2 H2 => ∃ ρ2 M2 F2, Pv (i + 1) ρ2 M2 ∧ Wd B F2 H2 M2 ∧ Same F1 F2 ∧ Paired (SOk F2) σ2 ρ2, fun σ2 H2 ⟨ρ2, M2, F2, q1, q2, q3, q4⟩ => ⟨m - 1, by omega, by omega, ρ2, M2, F2, q1, q2, q3, q4⟩, fun x H2 y => ?_⟩
    obtain ⟨F2, s2, W2, v2⟩ := gi.yld i B F' H' M' x H2 hi s' W' y
    refine turn i ρ' M' hi pv B F2 H2 σ' x _ W2 (pMono s2 S') v2 fun ρ3 M3 σ3 F3 H3 q W3 s3 S3 => ?_
    refine (show GB X ρ3 M3 body _ from q) B F3 H3 σ3 _ W3 S3 ⟨?_, ?_, ?_, ?_⟩
    · exact fun ρ4 M4 σ4 F4 H4 q W4 s4 S4 => ⟨ρ4, M4, F4, q, W4, ((s'.trans s2).trans s3).trans s4, S4⟩
    · exact s.rt.mono ((s1.trans s').trans (s2.trans s3))
    · exact s.nx.mono ((s1.trans s').trans (s2.trans s3))
    · exact fun ρ4 M4 σ4 F4 H4 q W4 s4 S4 => ⟨ρ4, M4, F4, q, W4, ((s'.trans s2).trans s3).trans s4, S4⟩
  · have e : i = n := by omega
    subst e
    exact .inl ⟨gi.stop F' H' s' W'.fh, s.nx ρ' M' σ' F' H' (fin ρ' M' pv) W' (s1.trans s') S'⟩
theorem swhile (hp : PassesOwn (model X.prog X.w) X.A X.env X.xe) (Wv : Nat → List SD → Mem → Prop) (m0 : Nat) (h0 : Wv m0 ρ M)
    (turn : ∀ m ρ' M', Wv m ρ' M' → GT X ρ' M' c fun k M1 => if k = true then GB X ρ' M1 body ⟨fun ρ2 M2 => ∃ m', m' < m ∧ Wv m' ρ2 M2, D.rt, D.nx, fun ρ2 M2 => ∃ m', m' < m ∧ Wv m' ρ2 M2⟩ else D.nx ρ' M1) : GS X ρ M (.While c body [] pos) D := .mk fun B F H σ D' W S s => by
  refine wS_of (ps_while hp pT pB) ⟨fun m σ' H' => ∃ ρ' M' F', Wv m ρ' M' ∧ Wd B F' H' M' ∧ Same F F' ∧ Paired (SOk F') σ' ρ', ⟨m0, ρ, M, F, h0, W, Same.refl F, S⟩, ?_⟩
  rintro m σ' H' ⟨ρ', M', F', wv, W', s', S'⟩
  refine turn m ρ' M' wv B F' H' σ' _ W' S' fun k M1 F1 H1 hx W1 s1 => ?_
  cases k with
  | true =>
    refine iteT ⟨fun σ2 H2 => ∃ m', m' < m ∧ ∃ ρ2 M2 F2, Wv m' ρ2 M2 ∧ Wd B F2 H2 M2 ∧ Same F F2 ∧ Paired (SOk F2) σ2 ρ2, fun σ2 H2 q => q, ?_⟩
    refine (show GB X ρ' M1 body _ from hx) B F1 H1 σ' _ W1 (pMono s1 S') ⟨?_, s.rt.mono (s'.trans s1), s.nx.mono (s'.trans s1), ?_⟩
    · exact fun ρ4 M4 σ4 F4 H4 ⟨m', hm, q⟩ W4 s4 S4 => ⟨m', hm, ρ4, M4, F4, q, W4, (s'.trans s1).trans s4, S4⟩
    · exact fun ρ4 M4 σ4 F4 H4 ⟨m', hm, q⟩ W4 s4 S4 => ⟨m', hm, ρ4, M4, F4, q, W4, (s'.trans s1).trans s4, S4⟩
  | false => exact iteF (s.nx ρ' M1 σ' F1 H1 hx W1 (s'.trans s1) (pMono s1 S'))
end
end G

namespace G
open PySem PySem.Spec PyProof.Rows L2
/-! ### comprehensions -/
/-- every block that a comprehension of X may run in -/
abbrev Blk (X : Cx) (scope : Scope) (Y : Cx) : Prop := ∃ (s : Shared) (H : Hp) (C : Addr) (cl : List (Str × Addr)) (fp : List Addr), Y = X.blk s H scope (compEnvC scope cl C X.env) fp
/-- the targets that are taken: a name, a pair of names -/
inductive Tg where
  | name (j : Nat)
  | pair (j k : Nat)
  | tri (j k m : Nat)
def Tg.g (K : PySem.W.Frag) : Tg → TG
  | .name j => gName j
  | .pair j k => gTup K 2 (gCons (gName j) (gCons (gName k) gNil))
  | .tri j k m => gTup K 3 (gCons (gName j) (gCons (gName k) (gCons (gName m) gNil)))
def Tg.ix : Tg → List Nat
  | .name j => [j]
  | .pair j k => [j, k]
  | .tri j k m => [j, k, m]
def Tg.put : Tg → List SD → SD → Option (List SD)
  | .name j, ρ, r => some (ρ.set j r)
  | .pair j k, ρ, .pu (.tuple [d, e]) => some ((ρ.set j (.pu d)).set k (.pu e))
  | .tri j k m, ρ, .pu (.tuple [d, e, f]) => some (((ρ.set j (.pu d)).set k (.pu e)).set m (.pu f))
  | _, _, _ => none
section
variable {X : Cx} {ρ : List SD} {M : Mem} {Q : Kn} {pos : Pos} {elt tg it tg1 it1 : Expr} {ifs ifs1 : List Expr} {scope : Scope} {own : List (Str × Nat)}
theorem wipe_at {σ : L2.St} : ∀ {vs : List Nat} {i : Nat}, i ∈ vs → (wipe σ vs)[i]? = σ[i]?.map fun _ => none
  | v :: vs, i, h => by
    unfold wipe
    by_cases e : v = i
    · subst e
      by_cases hl : v < (wipe σ vs).length
      · rw [List.getElem?_set_self hl]
        rw [wipe_length] at hl
        rw [List.getElem?_eq_getElem hl]
        rfl
      · have hl' : σ.length ≤ v := by rw [wipe_length] at hl; omega
        rw [List.getElem?_eq_none (by rw [List.length_set, wipe_length]; exact hl'), List.getElem?_eq_none hl']
        rfl
    · rw [List.getElem?_set_ne e]
      rcases List.mem_cons.mp h with z | z
      · exact absurd z.symm e
      · exact wipe_at z
theorem wipe_eq {σ σ' : L2.St} {vs : List Nat} (h : ∀ i, i ∉ vs → σ'[i]? = σ[i]?) (hl : σ'.length = σ.length) : wipe σ' vs = wipe σ vs := by
  apply List.ext_getElem?
  intro i
  by_cases hi : i ∈ vs
  · rw [wipe_at hi, wipe_at hi]
    by_cases hz : i < σ.length
    · rw [List.getElem?_eq_getElem hz, List.getElem?_eq_getElem (by rw [hl]; exact hz)]
      rfl
    · rw [List.getElem?_eq_none (Nat.le_of_not_lt hz), List.getElem?_eq_none (hl ▸ Nat.le_of_not_lt hz)]
  · rw [wipe_out hi, wipe_out hi]
    exact h i hi
theorem wipe_wipe {σ : L2.St} {vs : List Nat} : wipe (wipe σ vs) vs = wipe σ vs := wipe_eq (fun i hi => wipe_out hi) (wipe_length σ vs)
theorem put_pair {j k : Nat} {ρ ρ2 : List SD} {r : SD} (h : Tg.put (.pair j k) ρ r = some ρ2) : ∃ d e, r = .pu (.tuple [d, e]) ∧ (ρ.set j (.pu d)).set k (.pu e) = ρ2 := by
  cases r with
  | un => cases h
  | rf v => cases h
  | pv v d => cases h
  | tp vs => cases h
  | ob C ds => cases h
  | sm p => cases h
  | pu d =>
    cases d with
    | tuple ds =>
      match ds, h with
      | [d, e], h => exact ⟨d, e, rfl, Option.some.inj h⟩
      | [], h => cases h
      | [_], h => cases h
      | _ :: _ :: _ :: _, h => cases h
    | _ => cases h
theorem put_tri {j k m : Nat} {ρ ρ2 : List SD} {r : SD} (h : Tg.put (.tri j k m) ρ r = some ρ2) : ∃ d e f, r = .pu (.tuple [d, e, f]) ∧ ((ρ.set j (.pu d)).set k (.pu e)).set m (.pu f) = ρ2 := by
  cases r with
  | un => cases h
  | rf v => cases h
  | pv v d => cases h
  | tp vs => cases h
  | ob C ds => cases h
  | sm p => cases h
  | pu d =>
    cases d with
    | tuple ds =>
      match ds, h with
      | [d, e, f], h => exact ⟨d, e, f, rfl, Option.some.inj h⟩
      | [], h => cases h
      | [_], h => cases h
      | [_, _], h => cases h
      | _ :: _ :: _ :: _ :: _, h => cases h
    | _ => cases h
theorem tg_run {K : PySem.W.Frag} {F H : Hp} {σ : L2.St} {ρ ρ2 : List SD} {v : V} {r : SD} {t : Tg} {vs : List Nat} {Q : L2.St → Hp → Prop} (fh : Same F H) (S : Paired (SOk F) σ ρ) (hv : VOk F v r) (hp : t.put ρ r = some ρ2) (hi : ∀ j ∈ t.ix, j ∈ vs)
    (q : ∀ σ2, Paired (SOk F) σ2 ρ2 → wipe σ2 vs = wipe σ vs → Q σ2 H) : t.g K v σ H Q := by
  cases t with
  | name j =>
    have e : ρ.set j r = ρ2 := Option.some.inj hp
    subst e
    have hj : j ∈ vs := hi j List.mem_cons_self
    refine q _ (pset hv j S) (wipe_eq (fun i hn => ?_) List.length_set)
    rw [List.getElem?_set_ne]
    intro e
    exact hn (e ▸ hj)
  | pair j k =>
    obtain ⟨d, e', e1, e2⟩ := put_pair hp
    subst e1
    subst e2
    have hv : Dt F v (.tuple [d, e']) := hv
    cases hv with
    | tup t1 t2 =>
      cases t2 with
      | cons a b =>
        cases b with
        | cons b c =>
          cases c
          have hj : j ∈ vs := hi j List.mem_cons_self
          have hk : k ∈ vs := hi k (List.mem_cons_of_mem _ List.mem_cons_self)
          refine ⟨_, _, rfl, .of (fh _ _ t1), rfl, _, _, rfl, _, _, rfl, rfl, ?_⟩
          refine q _ (pset (show SOk F (some _) (.pu e') from b) k (pset (show SOk F (some _) (.pu d) from a) j S)) (wipe_eq (fun i hn => ?_) (by rw [List.length_set, List.length_set]))
          rw [List.getElem?_set_ne, List.getElem?_set_ne]
          · intro e
            exact hn (e ▸ hj)
          · intro e
            exact hn (e ▸ hk)
  | tri j k m =>
    obtain ⟨d, e', f', e1, e2⟩ := put_tri hp
    subst e1
    subst e2
    have hv : Dt F v (.tuple [d, e', f']) := hv
    cases hv with
    | tup t1 t2 =>
      cases t2 with
      | cons a b =>
        cases b with
        | cons b c =>
          cases c with
          | cons c d0 =>
            cases d0
            have hj : j ∈ vs := hi j List.mem_cons_self
            have hk : k ∈ vs := hi k (List.mem_cons_of_mem _ List.mem_cons_self)
            have hm : m ∈ vs := hi m (List.mem_cons_of_mem _ (List.mem_cons_of_mem _ List.mem_cons_self))
            refine ⟨_, _, rfl, .of (fh _ _ t1), rfl, _, _, rfl, _, _, rfl, _, _, rfl, rfl, ?_⟩
            refine q _ (pset (show SOk F (some _) (.pu f') from c) m (pset (show SOk F (some _) (.pu e') from b) k (pset (show SOk F (some _) (.pu d) from a) j S))) (wipe_eq (fun i hn => ?_) (by rw [List.length_set, List.length_set, List.length_set]))
            rw [List.getElem?_set_ne, List.getElem?_set_ne, List.getElem?_set_ne]
            · intro e
              exact hn (e ▸ hj)
            · intro e
              exact hn (e ▸ hk)
            · intro e
              exact hn (e ▸ hm)
def wTs (X : Cx) : List Expr → TT
  | [] => tYes
  | [c] => wT X c
  | _ => fun _ _ _ => False
theorem pTs : ∀ {ifs : List Expr}, PTs X ifs (wTs X ifs)
  | [] => pts_nil
  | [c] => pts_one pT
  | _ :: _ :: _ => ⟨fun _ _ _ _ _ _ h => False.elim h⟩
/-- over all blocks at once -/
def bT (X : Cx) (scope : Scope) (ifs : List Expr) : TT := fun σ H Q => ∀ Y, Blk X scope Y → wTs Y ifs σ H Q
def bE (X : Cx) (scope : Scope) (e : Expr) : TE := fun σ H Q => ∀ Y, Blk X scope Y → wE Y e σ H Q
def bI (X : Cx) (scope : Scope) (tg it : Expr) : TI := fun σ H R => ∀ Y, Blk X scope Y → wI Y tg it σ H R
theorem blk_mk {s : Shared} {H : Hp} {C : Addr} {cl : List (Str × Addr)} {fp : List Addr} : Blk X scope (X.blk s H scope (compEnvC scope cl C X.env) fp) := ⟨s, H, C, cl, fp, rfl⟩
theorem bT_p {s : Shared} {H : Hp} {C : Addr} {cl : List (Str × Addr)} {fp : List Addr} : PTs (X.blk s H scope (compEnvC scope cl C X.env) fp) ifs (bT X scope ifs) := ⟨fun pins s' σ H' Q I h => pTs.run pins s' σ H' Q I (h _ blk_mk)⟩
theorem bE_p {s : Shared} {H : Hp} {C : Addr} {cl : List (Str × Addr)} {fp : List Addr} {e : Expr} : PE (X.blk s H scope (compEnvC scope cl C X.env) fp) e (bE X scope e) := ⟨fun pins s' σ H' Q I h => pE.run pins s' σ H' Q I (h _ blk_mk)⟩
theorem bI_p {s : Shared} {H : Hp} {C : Addr} {cl : List (Str × Addr)} {fp : List Addr} {tg it : Expr} : PI (X.blk s H scope (compEnvC scope cl C X.env) fp) tg it (bI X scope tg it) := ⟨fun pins s' σ H' R I h => pI.run pins s' σ H' R I (h _ blk_mk)⟩
def wipeR (ρ : List SD) : List Nat → List SD
  | [] => ρ
  | v :: vs => (wipeR ρ vs).set v .un
theorem pwipe {F : Hp} {σ : L2.St} {ρ : List SD} (S : Paired (SOk F) σ ρ) : ∀ vs : List Nat, Paired (SOk F) (wipe σ vs) (wipeR ρ vs)
  | [] => S
  | v :: vs => by
    unfold wipe wipeR
    exact pset SOk.un v (pwipe S vs)
def GTs (Y : Cx) (ρ : List SD) (M : Mem) (ifs : List Expr) (Q : Bool → Mem → Prop) : Prop := match ifs with
  | [] => Q true M
  | [c] => GT Y ρ M c Q
  | _ => False
theorem gts_run {Y : Cx} {Q : Bool → Mem → Prop} (h : GTs Y ρ M ifs Q) : ∀ B F H σ Q', Wd B F H M → Paired (SOk F) σ ρ → SatT B F Q Q' → wTs Y ifs σ H Q' := fun B F H σ Q' W S s => by
  match ifs, h with
  | [], h => exact s _ M F H h W (Same.refl F)
  | [c], h => exact (show GT Y ρ M c Q from h) B F H σ Q' W S s
/-- a turn, behind the target's store: the tests, then the item -/
def LTurn (X : Cx) (scope : Scope) (ρ : List SD) (M : Mem) (ifs : List Expr) (elt : Expr) (yes : Kn) (no : Mem → Prop) : Prop :=
  ∀ Y, Blk X scope Y → GTs Y ρ M ifs fun b M3 => if b = true then ∀ Y2, Blk X scope Y2 → GE Y2 ρ M3 elt yes else no M3
theorem wd_swap {B : Bs} {F F' H H' : Hp} {D : Addr} {mo : MO} {M M' : Mem} (W : Wd B F H ((D, mo) :: M)) (W' : Wd (here F H M) F' H' M') : Wd B F' H' ((D, mo) :: M') := by
  have h1 : ((D, mo) :: M).Perm (M ++ [(D, mo)]) := List.perm_append_comm (l₁ := [(D, mo)])
  have h2 := (W.perm h1).frame W'
  exact h2.perm (List.perm_append_comm (l₂ := [(D, mo)]))
theorem turn_run {B : Bs} {F H : Hp} {σ : L2.St} {D : Addr} {acc : List SD} {yes : Kn} {no : Mem → Prop} {Nx : Hp → Prop} (W : Wd B F H ((D, .lst acc) :: M)) (S : Paired (SOk F) σ ρ) (ha : acc.length < 100000) (h : LTurn X scope ρ M ifs elt yes no)
    (hy : ∀ r M4 F4 H4, yes r M4 → Wd B F4 H4 ((D, .lst (acc ++ [r])) :: M4) → Same F F4 → Nx H4) (hn : ∀ M3 F3 H3, no M3 → Wd B F3 H3 ((D, .lst acc) :: M3) → Same F F3 → Nx H3) :
    bT X scope ifs σ H fun b H3 => if b = true then bE X scope elt σ H3 fun y H4 => ∃ ac, H4 D = some (.lst ac) ∧ ac.length < sizeLine ∧ Nx (upd H4 D (.lst (ac ++ [y]))) else Nx H3 := fun Y hY => by
  have W0 := W.sub (List.sublist_cons_self _ M)
  refine gts_run (h Y hY) (here F H M) F H σ _ W0.here S fun b M3 F3 H3 hb W3 s3 => ?_
  have W3' := wd_swap W W3
  cases b with
  | false => exact iteF (hn M3 F3 H3 hb W3' s3)
  | true =>
    refine iteT fun Y2 hY2 => ?_
    have W4 := W3'.sub (List.sublist_cons_self _ M3)
    refine (show ∀ Y2, Blk X scope Y2 → GE Y2 ρ M3 elt yes from hb) Y2 hY2 (here F3 H3 M3) F3 H3 σ _ W4.here (pMono s3 S) fun r M4 v F4 H4 hr W5 s4 vv => ?_
    have W5' := wd_swap W3' W5
    obtain ⟨f1, vs, f2, f3⟩ := W5'.mem _ List.mem_cons_self
    refine ⟨vs, f2, by rw [Paired.length f3]; exact Nat.lt_of_lt_of_le ha (by decide), ?_⟩
    exact hy r M4 F4 _ hr (W5'.write (paired_app f3 (.cons vv .nil))) (s3.trans s4)
/-- the list as the turns make it -/
def LComp (X : Cx) (scope : Scope) (ρ : List SD) (vs : List Nat) (t : Tg) (ifs : List Expr) (elt : Expr) (Q : Kn) (n : Nat) (item : Nat → SD) (M1 : Mem) : Prop :=
  n ≤ 100000 ∧ ∃ Pv : Nat → List SD → Mem → Prop, Pv 0 [] M1 ∧
    (∀ i acc M', i < n → acc.length ≤ i → Pv i acc M' → ∃ ρ2, t.put (wipeR ρ vs) (item i) = some ρ2 ∧ LTurn X scope ρ2 M' ifs elt (fun r M2 => Pv (i + 1) (acc ++ [r]) M2) (fun M2 => Pv (i + 1) acc M2)) ∧
    ∀ acc M', acc.length ≤ n → Pv n acc M' → ∀ l, Q (.rf (.ref l)) ((l, .lst acc) :: M')
theorem lc_run {t : Tg} {vs : List Nat} {B : Bs} {F H : Hp} {σ : L2.St} {Q' : VK} (hi : ∀ j ∈ t.ix, j ∈ vs) (h : GI X ρ M tg it (LComp X scope ρ vs t ifs elt Q)) (W : Wd B F H M) (S : Paired (SOk F) σ ρ) (s : Sat B F Q Q') :
    tLc (wI X tg it) (t.g X.K) (bT X scope ifs) (bE X scope elt) vs σ H Q' := by
  refine h B F H σ _ W S fun n item M1 J F1 H1 hx W1 s1 gi Dl hD => ?_
  obtain ⟨hn, Pv, p0, turn, fin⟩ := hx
  refine ⟨fun i m H' => i + m = n ∧ ∃ acc M' F', acc.length ≤ i ∧ Pv i acc M' ∧ Wd B F' H' ((Dl, .lst acc) :: M') ∧ Same F1 F', ⟨n, Nat.zero_add n, [], M1, F1, Nat.le_refl 0, p0, W1.newl hD .nil, Same.refl F1⟩, ?_⟩
  rintro i m H' ⟨him, acc, M', F', ha, pv, W', s'⟩
  by_cases hin : i < n
  · refine .inr ⟨gi.go i F' H' s' W'.fh hin, fun H2 => ∃ acc2 M2 F2, acc2.length ≤ i + 1 ∧ Pv (i + 1) acc2 M2 ∧ Wd B F2 H2 ((Dl, .lst acc2) :: M2) ∧ Same F1 F2, fun H2 ⟨a2, M2, F2, q1, q2, q3, q4⟩ => ⟨m - 1, by omega, by omega, a2, M2, F2, q1, q2, q3, q4⟩, fun x H2 y => ?_⟩
    obtain ⟨F2, s2, W2, v2⟩ := gi.yld i B F' H' _ x H2 hin s' W' y
    obtain ⟨ρ2, hp, lt⟩ := turn i acc M' hin ha pv
    refine tg_run W2.fh (pwipe (pMono ((s1.trans s').trans s2) S) vs) v2 hp hi fun σ2 S2 hw => ⟨by rw [hw, wipe_wipe], ?_⟩
    refine turn_run W2 S2 (by omega) lt (fun r M4 F4 H4 q W4 s4 => ?_) (fun M3 F3 H3 q W3 s3 => ?_)
    · exact ⟨_, M4, F4, by rw [List.length_append, List.length_singleton]; omega, q, W4, (s'.trans s2).trans s4⟩
    · exact ⟨acc, M3, F3, by omega, q, W3, (s'.trans s2).trans s3⟩
  · have e : i = n := by omega
    subst e
    exact .inl ⟨gi.stop F' H' s' W'.fh, s _ _ _ F' H' (fin acc M' ha pv Dl) W' (s1.trans s') rfl⟩
/-- how the target stores, in every block -/
abbrev TgOk (X : Cx) (scope : Scope) (tg : Expr) (t : Tg) : Prop := ∀ (s : Shared) (H : Hp) (C : Addr) (cl : List (Str × Addr)) (fp : List Addr), PG (X.blk s H scope (compEnvC scope cl C X.env) fp) tg (t.g X.K)
theorem glc (t : Tg) (hc : X.calm = true) (hN : X.N.Nodup) (ok : BlkOk X.N X.env.scope scope own) (ht : TgOk X scope tg t) (hi : ∀ j ∈ t.ix, j ∈ own.map (·.2)) (h : GI X ρ M tg it (LComp X scope ρ (own.map (·.2)) t ifs elt Q))
    (hs : ∀ x, foldedSetIterable it X.env x = pure x := by intro _; rfl) : GE X ρ M (.ListComp elt [⟨tg, it, ifs, 0⟩] scope pos) Q := .mk fun B F H σ Q' W S s =>
  wE_of (pe_lc hc hN pI ok ht (fun _ _ _ _ _ => bT_p) (fun _ _ _ _ _ => bE_p) hs) (lc_run hi h W S s)
/-- name = [.. for ..] on one row, the name a local -/
theorem ssetlc (i : Nat) (t : Tg) {y : Str} {py spos : Pos} {D : GD} (hc : X.calm = true) (hN : X.N.Nodup) (hy : X.N[i]? = some y) (hyl : X.env.scope.names.lookup y = some .local)
    (hsw : swapsWith (.ListComp elt [⟨tg, it, ifs, 0⟩] scope pos) (some (.Name y py)) spos.line X.env = pure true) (ok : BlkOk X.N X.env.scope scope own) (ht : TgOk X scope tg t) (hi : ∀ j ∈ t.ix, j ∈ own.map (·.2))
    (h : GI X ρ M tg it (LComp X scope ρ (own.map (·.2)) t ifs elt fun r M' => D.nx (ρ.set i r) M'))
    (hs : ∀ x, foldedSetIterable it X.env x = pure x := by intro _; rfl) : GS X ρ M (.Assign [.Name y py] (.ListComp elt [⟨tg, it, ifs, 0⟩] scope pos) spos) D := .mk fun B F H σ D' W S s => by
  refine wS_of (ps_setLc hc hN hy hyl hsw pI ok ht (fun _ _ _ _ _ => bT_p) (fun _ _ _ _ _ => bE_p) hs) ?_
  refine lc_run (Q' := fun v H1 => gName i v σ H1 D'.nx) hi h W S fun r M' v F' H' q W' s' vv => ?_
  exact s.nx _ _ _ F' H' q W' s' (pset vv i (pMono s' S))
/-- two fors -/
def LComp2 (X : Cx) (scope : Scope) (ρ : List SD) (vs vs1 : List Nat) (t t1 : Tg) (ifs : List Expr) (tg1 it1 : Expr) (ifs1 : List Expr) (elt : Expr) (Q : Kn) (n : Nat) (item : Nat → SD) (M1 : Mem) : Prop :=
  ∃ Pv : Nat → List SD → Mem → Prop, Pv 0 [] M1 ∧ (∀ i acc M', Pv i acc M' → acc.length < 50000) ∧
    (∀ i acc M', i < n → Pv i acc M' → ∃ ρ2, t.put (wipeR ρ vs) (item i) = some ρ2 ∧ ∀ Y, Blk X scope Y → GTs Y ρ2 M' ifs fun b M2 => if b = true then
      ∀ Y1, Blk X scope Y1 → GI Y1 ρ2 M2 tg1 it1 fun n1 item1 M3 => ∃ Pw : Nat → List SD → Mem → Prop, Pw 0 acc M3 ∧ (∀ j acc M', Pw j acc M' → acc.length < 50000) ∧
        (∀ j acc2 M4, j < n1 → Pw j acc2 M4 → ∃ ρ3, t1.put (wipeR ρ2 vs1) (item1 j) = some ρ3 ∧ LTurn X scope ρ3 M4 ifs1 elt (fun r M5 => Pw (j + 1) (acc2 ++ [r]) M5) (fun M5 => Pw (j + 1) acc2 M5)) ∧
        ∀ acc2 M4, Pw n1 acc2 M4 → Pv (i + 1) acc2 M4
      else Pv (i + 1) acc M2) ∧
    ∀ acc M', Pv n acc M' → ∀ l, Q (.rf (.ref l)) ((l, .lst acc) :: M')
theorem lc2_run {t t1 : Tg} {vs vs1 : List Nat} {B : Bs} {F H : Hp} {σ : L2.St} {Q' : VK} (hi : ∀ j ∈ t.ix, j ∈ vs) (hi1 : ∀ j ∈ t1.ix, j ∈ vs1) (h : GI X ρ M tg it (LComp2 X scope ρ vs vs1 t t1 ifs tg1 it1 ifs1 elt Q)) (W : Wd B F H M) (S : Paired (SOk F) σ ρ) (s : Sat B F Q Q') :
    tLc2 (wI X tg it) (t.g X.K) (bT X scope ifs) (bI X scope tg1 it1) (t1.g X.K) (bT X scope ifs1) (bE X scope elt) vs vs1 σ H Q' := by
  refine h B F H σ _ W S fun n item M1 J F1 H1 hx W1 s1 gi Dl hD => ?_
  obtain ⟨Pv, p0, hn, turn, fin⟩ := hx
  refine ⟨fun i m H' => i + m = n ∧ ∃ acc M' F', Pv i acc M' ∧ Wd B F' H' ((Dl, .lst acc) :: M') ∧ Same F1 F', ⟨n, Nat.zero_add n, [], M1, F1, p0, W1.newl hD .nil, Same.refl F1⟩, ?_⟩
  rintro i m H' ⟨him, acc, M', F', pv, W', s'⟩
  by_cases hin : i < n
  · refine .inr ⟨gi.go i F' H' s' W'.fh hin, fun H2 => ∃ acc2 M2 F2, Pv (i + 1) acc2 M2 ∧ Wd B F2 H2 ((Dl, .lst acc2) :: M2) ∧ Same F1 F2, fun H2 ⟨a2, M2, F2, q2, q3, q4⟩ => ⟨m - 1, by omega, by omega, a2, M2, F2, q2, q3, q4⟩, fun x H2 y => ?_⟩
    obtain ⟨F2, s2, W2, v2⟩ := gi.yld i B F' H' _ x H2 hin s' W' y
    obtain ⟨ρ2, hp, lt⟩ := turn i acc M' hin pv
    refine tg_run W2.fh (pwipe (pMono ((s1.trans s').trans s2) S) vs) v2 hp hi fun σ2 S2 hw => ⟨by rw [hw, wipe_wipe], fun Y hY => ?_⟩
    have W20 := W2.sub (List.sublist_cons_self _ M')
    refine gts_run (lt Y hY) (here F2 H2 M') F2 H2 σ2 _ W20.here S2 fun b M3 F3 H3 hb W3 s3 => ?_
    have W3' := wd_swap W2 W3
    cases b with
    | false => exact iteF ⟨acc, M3, F3, hb, W3', (s'.trans s2).trans s3⟩
    | true =>
      refine iteT fun Y1 hY1 => ?_
      have W30 := W3'.sub (List.sublist_cons_self _ M3)
      refine (show ∀ Y1, Blk X scope Y1 → GI Y1 ρ2 M3 tg1 it1 _ from hb) Y1 hY1 (here F3 H3 M3) F3 H3 σ2 _ W30.here (pMono s3 S2) fun n1 item1 M4 J1 F4 H4 hx W4 s4 gi1 => ?_
      have W4' := wd_swap W3' W4
      obtain ⟨Pw, w0, hn1, turn1, fin1⟩ := hx
      refine ⟨fun j k H' => j + k = n1 ∧ ∃ acc2 M5 F5, Pw j acc2 M5 ∧ Wd B F5 H' ((Dl, .lst acc2) :: M5) ∧ Same F4 F5, ⟨n1, Nat.zero_add n1, acc, M4, F4, w0, W4', Same.refl F4⟩, ?_⟩
      rintro j k H5 ⟨hjk, acc2, M5, F5, pw, W5, s5⟩
      by_cases hjn : j < n1
      · refine .inr ⟨gi1.go j F5 H5 s5 W5.fh hjn, fun H6 => ∃ acc3 M6 F6, Pw (j + 1) acc3 M6 ∧ Wd B F6 H6 ((Dl, .lst acc3) :: M6) ∧ Same F4 F6, fun H6 ⟨a3, M6, F6, q2, q3, q4⟩ => ⟨k - 1, by omega, by omega, a3, M6, F6, q2, q3, q4⟩, fun x1 H6 y1 => ?_⟩
        obtain ⟨F6, s6, W6, v6⟩ := gi1.yld j B F5 H5 _ x1 H6 hjn s5 W5 y1
        obtain ⟨ρ3, hp1, lt1⟩ := turn1 j acc2 M5 hjn pw
        refine tg_run W6.fh (pwipe (pMono (((s3.trans s4).trans s5).trans s6) S2) vs1) v6 hp1 hi1 fun σ3 S3 hw1 => ⟨by rw [hw1, wipe_wipe], ?_⟩
        refine turn_run W6 S3 (Nat.lt_trans (hn1 j acc2 M5 pw) (by decide)) lt1 (fun r M7 F7 H7 q W7 s7 => ?_) (fun M7 F7 H7 q W7 s7 => ?_)
        · exact ⟨_, M7, F7, q, W7, (s5.trans s6).trans s7⟩
        · exact ⟨acc2, M7, F7, q, W7, (s5.trans s6).trans s7⟩
      · have e : j = n1 := by omega
        subst e
        exact .inl ⟨gi1.stop F5 H5 s5 W5.fh, acc2, M5, F5, fin1 acc2 M5 pw, W5, (((s'.trans s2).trans s3).trans s4).trans s5⟩
  · have e : i = n := by omega
    subst e
    exact .inl ⟨gi.stop F' H' s' W'.fh, s _ _ _ F' H' (fin acc M' pv Dl) W' (s1.trans s') rfl⟩
theorem glc2 (t t1 : Tg) (vs1 : List Nat) (hc : X.calm = true) (hN : X.N.Nodup) (ok : BlkOk X.N X.env.scope scope own) (hv : ∀ i ∈ vs1, i ∈ own.map (·.2)) (ht : TgOk X scope tg t) (ht1 : TgOk X scope tg1 t1) (hi : ∀ j ∈ t.ix, j ∈ own.map (·.2)) (hi1 : ∀ j ∈ t1.ix, j ∈ vs1)
    (h : GI X ρ M tg it (LComp2 X scope ρ (own.map (·.2)) vs1 t t1 ifs tg1 it1 ifs1 elt Q))
    (hs : ∀ x, foldedSetIterable it X.env x = pure x := by intro _; rfl) (hs1 : ∀ env x, foldedSetIterable it1 env x = pure x := by intro _ _; rfl) : GE X ρ M (.ListComp elt [⟨tg, it, ifs, 0⟩, ⟨tg1, it1, ifs1, 0⟩] scope pos) Q := .mk fun B F H σ Q' W S s =>
  wE_of (pe_lc2 hc hN pI ok hv ht (fun _ _ _ _ _ => bT_p) (fun _ _ _ _ _ => bI_p) ht1 (fun _ _ _ _ _ => bT_p) (fun _ _ _ _ _ => bE_p) hs hs1) (lc2_run hi hi1 h W S s)
end
end G

namespace G
open PySem PySem.Spec PyProof.Rows L2
/-! ### sum(lists, []) -/
abbrev LAt (h : Heap) (a : Addr) (its : List Value) : Prop := ∃ n, h.get? a = some { cls := .type "list", data := .seq its.toArray n }
theorem LAt.keep {h h' : Heap} {a : Addr} {its : List Value} (x : LAt h a its) (k : ∀ o, h.get? a = some o → h'.get? a = some o) : LAt h' a its := let ⟨n, e⟩ := x; ⟨n, k _ e⟩
theorem LAt.isList {h : Heap} {a : Addr} {its : List Value} (x : LAt h a its) : h.IsList a its.toArray := let ⟨n, e⟩ := x; ⟨_, e, rfl, n, rfl⟩
section
variable {prog : Program} {w : World} {A : Around} {E : Value → Shared → Prop} {R : Result → Shared → Prop}
theorem sum_lists_loop (hh : A.handled = none) {I S l : Addr} {as : List Addr} {rows : List (List Value)} (hlen : as.length = rows.length) (hz : rows.flatten.length ≤ sizeLine) (hIS : I ≠ S) (hlI : l ≠ I) (hlS : l ≠ S) (haI : ∀ a ∈ as, a ≠ I ∧ a ≠ S) :
    ∀ (k i : Nat) (s : Shared) (p : Addr) (c : Nat), rows.length - i = k → i ≤ rows.length → s.heap.IsListIter I l i → LAt s.heap l (as.map Value.ref) → (∀ (j : Nat) (a : Addr) (r : List Value), as[j]? = some a → rows[j]? = some r → LAt s.heap a r) →
      s.heap.get? S = some { cls := .type "list", data := .seq #[.ref p] c } → p ≠ I → p ≠ S → LAt s.heap p (rows.take i).flatten →
      (∀ (s' : Shared) (q : Addr), s'.gens = s.gens → s'.drawn = s.drawn → s'.os = s.os → s'.toks = s.toks → (∀ b o, b ≠ I → b ≠ S → s.heap.get? b = some o → s'.heap.get? b = some o) → ((q = p ∧ i = rows.length) ∨ s.heap.objs.size ≤ q) → LAt s'.heap q rows.flatten → R (.ok (.ret (.ref q))) s') →
      codeAny (model prog w) A (.builtin "sum.loop" ⟨[.ref I, .ref S, rawInt 2, rawInt 0], []⟩) R s := by
  intro k
  induction k with
  | zero =>
    intro i s p c hk hi hit hl hr hS hpI hpS hp hR
    have e : i = rows.length := by omega
    subst e
    refine codeAny_builtin F.entry_sum_loop ?_
    rw [Around.under_plainId F.plain_sum_loop _]
    show wpAny _ A.in1 (seqItems? (.ref S) >>= _) _ _ s
    refine wpAny_bind (wpAny_seqItems hS rfl ?_)
    show wpAny _ A.in1 (tryCatch (pyNext (.ref I)) _ >>= _) _ _ s
    refine wpAny_bind (wpAny_tryCatch (wpAny_pyNext_list_end hh hit hl.isList (by simp; omega) fun h' eb => ?_))
    rw [List.take_of_length_le (Nat.le_refl _)] at hp
    exact wpAny_pure (hR _ p rfl rfl rfl rfl (fun b o h1 _ q => eb b o h1 q) (.inl ⟨rfl, rfl⟩) (hp.keep fun o q => eb p o hpI q))
  | succ k ih =>
    intro i s p c hk hi hit hl hr hS hpI hpS hp hR
    have hlt : i < rows.length := by omega
    have hla : i < as.length := by omega
    refine codeAny_builtin F.entry_sum_loop ?_
    rw [Around.under_plainId F.plain_sum_loop _]
    show wpAny _ A.in1 (seqItems? (.ref S) >>= _) _ _ s
    refine wpAny_bind (wpAny_seqItems hS rfl ?_)
    show wpAny _ A.in1 (tryCatch (pyNext (.ref I)) _ >>= _) _ _ s
    have ea : as[i]? = some as[i] := List.getElem?_eq_getElem hla
    have er : rows[i]? = some rows[i] := List.getElem?_eq_getElem hlt
    have hmem : as[i] ∈ as := List.getElem_mem hla
    refine wpAny_bind (wpAny_tryCatch (wpAny_pyNext_list_item hit hl.isList (x := .ref as[i]) (by simp [hla]) fun h1 hit1 sb => ?_))
    have kp : ∀ b o, b ≠ I → s.heap.get? b = some o → h1.get? b = some o := fun b o hb q => (sb.2 b hb).trans q
    have hS1 : h1.get? S = some { cls := .type "list", data := .seq #[.ref p] c } := kp S _ hIS.symm hS
    obtain ⟨n1, g1⟩ := hp.keep fun o q => kp p o hpI q
    obtain ⟨n2, g2⟩ := (hr i _ _ ea er).keep fun o q => kp _ o (haI _ hmem).1 q
    have hz2 : (rows.take (i + 1)).flatten.length ≤ sizeLine := by
      refine Nat.le_trans ?_ hz
      have z : rows.flatten = (rows.take (i + 1)).flatten ++ (rows.drop (i + 1)).flatten := by rw [← List.flatten_append, List.take_append_drop]
      rw [z, List.length_append]
      omega
    have et : (rows.take (i + 1)).flatten = (rows.take i).flatten ++ rows[i] := by
      have h9 : rows.take (i + 1) = rows.take i ++ [rows[i]] := by
        rw [List.take_add_one, er]
        rfl
      rw [h9, List.flatten_append]
      simp only [List.flatten_cons, List.flatten_nil, List.append_nil]
    show wpAny _ A.in1 ((holding [Value.ref as[i]] (binaryOp .Add (.ref p) (.ref as[i]))).attempt >>= _) _ _ { s with heap := h1 }
    refine wpAny_bind (wpAny_attempt (wpAny_holding (PySem.P.add_list (s := { s with heap := h1 }) g1 g2 ?_ (by rw [List.size_toArray, List.size_toArray, ← List.length_append, ← et]; exact hz2))))
    have hq : h1.objs.size ≠ I ∧ h1.objs.size ≠ S := by
      obtain ⟨o, q, _⟩ := hit1
      exact ⟨Nat.ne_of_gt (Heap.lt_size q), Nat.ne_of_gt (Heap.lt_size hS1)⟩
    have k2 : ∀ b o, h1.get? b = some o → (h1.push { cls := .type "list", data := .seq ((rows.take i).flatten.toArray ++ rows[i].toArray) }).get? b = some o := fun b o q => Heap.get?_push_of_some _ q
    show wpAny _ A.in1 (updateSeq S (fun _ => #[.ref h1.objs.size]) >>= _) _ _ _
    refine wpAny_bind (wpAny_updateSeq (k2 _ _ hS1) rfl ?_)
    have hS2 := Heap.get?_update_self (Obj.mapSeq fun _ => #[Value.ref h1.objs.size]) (k2 _ _ hS1) rfl
    refine wpAny_bind (wpAny_letGo ?_)
    refine wpAny_bind (wpAny_updateSeq hS2 rfl ?_)
    refine wpAny_pure ⟨plainId_quiet F.plain_sum_loop _, ?_⟩
    have up : ∀ b o, b ≠ S → h1.get? b = some o → (((h1.push { cls := .type "list", data := .seq ((rows.take i).flatten.toArray ++ rows[i].toArray) }).update S (Obj.mapSeq fun _ => #[Value.ref h1.objs.size])).update S (Obj.mapSeq fun _ => #[Value.ref h1.objs.size])).get? b = some o := fun b o hb q => by
      rw [Heap.get?_update_other _ _ (Ne.symm hb), Heap.get?_update_other _ _ (Ne.symm hb)]
      exact k2 b o q
    have ups : ∀ b o, b ≠ I → b ≠ S → s.heap.get? b = some o → (((h1.push { cls := .type "list", data := .seq ((rows.take i).flatten.toArray ++ rows[i].toArray) }).update S (Obj.mapSeq fun _ => #[Value.ref h1.objs.size])).update S (Obj.mapSeq fun _ => #[Value.ref h1.objs.size])).get? b = some o := fun b o hb hb2 q => up b o hb2 (kp b o hb q)
    refine ih (i + 1) _ h1.objs.size _ (by omega) (by omega) ?_ (hl.keep fun o q => ups l o hlI hlS q) (fun j a r e1 e2 => (hr j a r e1 e2).keep fun o q => ups a o (haI a (List.mem_of_getElem? e1)).1 (haI a (List.mem_of_getElem? e1)).2 q) (Heap.get?_update_self _ hS2 rfl) hq.1 hq.2 ?_ ?_
    · exact hit1.at fun o q => up I o hIS q
    · refine ⟨0, ?_⟩
      rw [Heap.get?_update_other _ _ (Ne.symm hq.2), Heap.get?_update_other _ _ (Ne.symm hq.2), et]
      refine (Heap.get?_push_size _ rfl).trans ?_
      simp
    · intro s' q a1 a2 a3 a4 a5 a6 a7
      have hsz : s.heap.objs.size ≤ h1.objs.size := by
        have z := sb.1
        omega
      refine hR s' q a1 a2 a3 a4 (fun b o h1 h2 e => a5 b o h1 h2 (ups b o h1 h2 e)) ?_ a7
      right
      rcases a6 with a6 | a6
      · rw [a6.1]
        exact hsz
      · refine Nat.le_trans hsz (Nat.le_trans ?_ a6)
        simp [Heap.size_push]
theorem sub_list_bytearray : isSubtype (.type "list") (.type "bytearray") = pure false := by
  rw [isSubtype_type]
  kernel_rfl
theorem args_sum2 (a b : Value) : argsOk "sum" ⟨[a, b], []⟩ := by
  unfold argsOk
  kernel_rfl
/-- sum(rows, start): start an empty list -/
theorem sum_lists {s : Shared} {Q : Value → Shared → Prop} (hh : A.handled = none) {l st : Addr} {as : List Addr} {rows : List (List Value)} (hlen : as.length = rows.length) (hz : rows.flatten.length ≤ sizeLine)
    (hl : LAt s.heap l (as.map Value.ref)) (hr : ∀ (j : Nat) (a : Addr) (r : List Value), as[j]? = some a → rows[j]? = some r → LAt s.heap a r) (hst : LAt s.heap st [])
    (hQ : ∀ (s' : Shared) (q : Addr), s'.gens = s.gens → s'.drawn = s.drawn → s'.os = s.os → s'.toks = s.toks → (∀ b o, s.heap.get? b = some o → s'.heap.get? b = some o) → ((q = st ∧ rows = []) ∨ s.heap.objs.size ≤ q) → LAt s'.heap q rows.flatten → Q (.ref q) s') :
    wpAny (model prog w) A (call (.builtin "sum") [.ref l, .ref st]) Q E s := by
  refine call_function_tree F.kind_sum F.plain_sum F.entry_sum (args_sum2 _ _) ?_
  unfold Builtin.«sum»
  simp only [List.length_cons, List.length_nil]
  rw [if_neg (by decide)]
  refine wpAny_bind (wpAny_of_eq (show Builtin.Builtins.bindParams "sum" ["start"] 0 ⟨[.ref st], []⟩ = pure [some (.ref st)] from rfl) ?_)
  refine wpAny_bind (wpAny_pyIter_list hl.isList ?_)
  refine wpAny_bind (wpAny_pure ?_)
  have k1 : ∀ b o, s.heap.get? b = some o → (s.heap.push { cls := .type "list_iterator", data := .fields #[.ref l, .int 0 0] }).get? b = some o := fun b o q => Heap.get?_push_of_some _ q
  obtain ⟨n0, e0⟩ := hst
  have ty : ({ s with heap := s.heap.push { cls := .type "list_iterator", data := .fields #[.ref l, .int 0 0] } } : Shared).TypeIs (.ref st) "list" := ⟨_, k1 _ _ e0, rfl⟩
  simp only [List.forIn_cons, List.forIn_nil]
  refine wpAny_bind (wpAny_bind (wpAny_bind (wpAny_isInstance (T := "list") (b := false) ty F.sub_list_str ?_)))
  simp only [Bool.false_eq_true, if_false]
  refine wpAny_pure (wpAny_bind (wpAny_bind (wpAny_isInstance (T := "list") (b := false) ty F.sub_list_bytes ?_)))
  simp only [Bool.false_eq_true, if_false]
  refine wpAny_pure (wpAny_bind (wpAny_bind (wpAny_isInstance (T := "list") (b := false) ty sub_list_bytearray ?_)))
  simp only [Bool.false_eq_true, if_false]
  refine wpAny_pure (wpAny_pure ?_)
  refine wpAny_bind (wpAny_newObj_type ?_)
  have k2 : ∀ b o, s.heap.get? b = some o → ((s.heap.push { cls := .type "list_iterator", data := .fields #[.ref l, .int 0 0] }).push { cls := .type "list", data := .seq #[.ref st] }).get? b = some o := fun b o q => Heap.get?_push_of_some _ (k1 b o q)
  have nI : ∀ b o, s.heap.get? b = some o → b ≠ s.heap.objs.size := fun b o q => Nat.ne_of_lt (Heap.lt_size q)
  have sz1 : (s.heap.push { cls := .type "list_iterator", data := .fields #[.ref l, .int 0 0] }).objs.size = s.heap.objs.size + 1 := Heap.size_push ..
  have nS : ∀ b o, s.heap.get? b = some o → b ≠ (s.heap.push { cls := .type "list_iterator", data := .fields #[.ref l, .int 0 0] }).objs.size := fun b o q => by
    rw [sz1]
    exact Nat.ne_of_lt (Nat.lt_succ_of_lt (Heap.lt_size q))
  obtain ⟨nl, el⟩ := id hl
  refine wpAny_pure ⟨plainId_quiet F.plain_sum_loop _, sum_lists_loop hh (I := s.heap.objs.size) (S := (s.heap.push { cls := .type "list_iterator", data := .fields #[.ref l, .int 0 0] }).objs.size) (l := l) (as := as) hlen hz (by rw [sz1]; exact Nat.ne_of_lt (Nat.lt_succ_self _)) (nI l _ el) (nS l _ el) (fun a ha => ?_)
    rows.length 0 _ st 0 (Nat.sub_zero _) (Nat.zero_le _) ?_ (hl.keep fun o q => k2 l o q) (fun j a r e1 e2 => (hr j a r e1 e2).keep fun o q => k2 a o q) (Heap.get?_push_size _ rfl) (nI st _ e0) (nS st _ e0) ⟨n0, k2 _ _ e0⟩ ?_⟩
  · obtain ⟨j, hj, e⟩ := List.mem_iff_getElem.mp ha
    obtain ⟨n, q⟩ := hr j a rows[j] (by rw [← e]; exact List.getElem?_eq_getElem hj) (List.getElem?_eq_getElem (by omega))
    exact ⟨nI a _ q, nS a _ q⟩
  · exact ⟨_, Heap.get?_push_of_some _ (Heap.get?_push_size _ rfl), rfl, rfl⟩
  · intro s' q a1 a2 a3 a4 a5 a6 a7
    refine hQ s' q a1 a2 a3 a4 (fun b o e => a5 b o (nI b o e) (nS b o e) (k2 b o e)) ?_ a7
    rcases a6 with z | z
    · exact .inl ⟨z.1, List.length_eq_zero_iff.mp z.2.symm⟩
    · refine .inr (Nat.le_trans ?_ z)
      show s.heap.objs.size ≤ ((s.heap.push _).push _).objs.size
      rw [Heap.size_push, Heap.size_push]
      omega
end
section
variable {X : Cx} {ρ : List SD} {M : Mem} {Q : Kn} {pos : Pos} {a b : Expr}
def rSumL : List V → Hp → VK → Prop := fun vs H Q => ∃ (l st : Addr) (as : List Addr) (rows : List (List V)), vs = [.ref l, .ref st] ∧ H l = some (.lst (as.map V.ref)) ∧ H st = some (.lst []) ∧ Paired (fun (a : Addr) r => H a = some (HO.lst r)) as rows ∧ rows.flatten.length ≤ sizeLine ∧
  rows ≠ [] ∧ ∀ p, H p = none → Q (.ref p) (upd H p (.lst rows.flatten))
theorem refs_of : ∀ {as : List Addr} {us : List Value}, Vals (as.map V.ref) us → us = as.map Value.ref
  | [], _, .nil => rfl
  | a :: as, _, .cons r t => by
    have r : _ = Value.ref a := r
    rw [r, refs_of t]
    rfl
theorem rows_of {pins : List (Addr × Obj)} {σ : L2.St} {H : Hp} {s : Shared} (I : Inv X pins σ H s) : ∀ {as : List Addr} {rows : List (List V)}, Paired (fun (a : Addr) r => H a = some (HO.lst r)) as rows →
    ∃ rv : List (List Value), Vals rows.flatten rv.flatten ∧ as.length = rv.length ∧ (rv = [] → rows = []) ∧ ∀ (j : Nat) (a : Addr) (r : List Value), as[j]? = some a → rv[j]? = some r → LAt s.heap a r
  | [], _, .nil => ⟨[], .nil, rfl, fun _ => rfl, fun j a r h => by simp at h⟩
  | a :: as, r :: rows, .cons h t => by
    obtain ⟨rv, h1, h2, h3, h4⟩ := rows_of I t
    obtain ⟨z, its, n, g1, g2, g3⟩ := I.lstM h
    refine ⟨its :: rv, ?_, by rw [List.length_cons, List.length_cons, h2], fun e => (by cases e), fun j a' r' e1 e2 => ?_⟩
    · rw [List.flatten_cons, List.flatten_cons]
      exact g1.append h1
    · cases j with
      | zero =>
        have e1 : a = a' := Option.some.inj e1
        have e2 : its = r' := Option.some.inj e2
        subst e1 e2
        exact ⟨n, g3⟩
      | succ j => exact h4 j a' r' (by simpa using e1) (by simpa using e2)
theorem cr_sumL (hc : X.calm = true) : CallR X (.builtin "sum") rSumL := by
  intro pins s σ H xs us Q I r h
  obtain ⟨l, st, as, rows, rfl, hl, hst, hp, hz, hne, q⟩ := h
  cases r with
  | cons r1 r2 =>
    cases r2 with
    | cons r2 r3 =>
      cases r3
      have r1 : _ = Value.ref l := r1
      have r2 : _ = Value.ref st := r2
      subst r1 r2
      obtain ⟨z1, its, n, g1, g2, g3⟩ := I.lstM hl
      have e1 := refs_of g1
      subst e1
      obtain ⟨z2, its2, n2, f1, f2, f3⟩ := I.lstM hst
      have e2 : its2 = [] := by cases f1; rfl
      subst e2
      obtain ⟨rv, h1, h2, h3, h4⟩ := rows_of I hp
      refine sum_lists (I.ok.hd hc) h2 (by rw [← h1.length]; exact hz) ⟨n, g3⟩ h4 ⟨n2, f3⟩ fun s' p a1 a2 a3 a4 a5 a6 a7 => ?_
      have a6 : s.heap.objs.size ≤ p := by
        rcases a6 with z | z
        · exact absurd (h3 z.2) hne
        · exact z
      obtain ⟨n', e'⟩ := a7
      obtain ⟨h', g', d', t', o'⟩ := s'
      obtain rfl : g' = s.gens := a1
      obtain rfl : d' = s.drawn := a2
      obtain rfl : o' = s.os := a3
      exact ⟨.ref p, _, I.laid (a := p) (o := .lst rows.flatten) (t' := t') a5 a6 ⟨hz, rv.flatten, n', h1, e'⟩, rfl, q p (I.hok.fresh a6)⟩
theorem lvs_at {B : Bs} {F H : Hp} (W : Wd B F H M) : ∀ {vs : List V} {xs : List SD} {yss : List (List SD)}, Paired (VOk F) vs xs → Paired (LV M) xs yss →
    ∃ (as : List Addr) (rows : List (List V)), vs = as.map V.ref ∧ Paired (fun (a : Addr) r => H a = some (HO.lst r)) as rows ∧ Paired (VOk F) rows.flatten yss.flatten ∧ rows.length = yss.length
  | _, _, _, .nil, .nil => ⟨[], [], rfl, .nil, .nil, rfl⟩
  | _, _, _, .cons v1 v2, .cons l1 l2 => by
    obtain ⟨as, rows, e1, e2, e3, e4⟩ := lvs_at W v2 l2
    obtain ⟨p, ws, g1, g2, g3⟩ := l1.at W v1
    refine ⟨p :: as, ws :: rows, by rw [g1, e1]; rfl, .cons g2 e2, ?_, by rw [List.length_cons, List.length_cons, e4]⟩
    rw [List.flatten_cons, List.flatten_cons]
    exact paired_app g3 e3
/-- sum(lists, []): a new list -/
theorem gsumL {p : Pos} (hc : X.calm = true) (hm : X.mg "sum" = none) (h : GE X ρ M a fun x M1 => GE X ρ M1 b fun y M2 => ∃ xs yss st, LV M2 x xs ∧ Paired (LV M2) xs yss ∧ yss ≠ [] ∧ y = .rf (.ref st) ∧ (st, MO.lst []) ∈ M2 ∧ yss.flatten.length ≤ 100000 ∧ ∀ l, Q (.rf (.ref l)) ((l, .lst yss.flatten) :: M2))
    (hg : Gl X "sum" := by rfl) (he : starEach [a, b] X.env = [(false, eval a X.env), (false, eval b X.env)] := by rfl) (he2 : starEach [b] X.env = [(false, eval b X.env)] := by rfl) : GE X ρ M (.Call (.Name "sum" p) [a, b] [] pos) Q :=
  gcb (cr_sumL hc) hm PyProof.Rows.boot_sum (acons (h.mono fun x M1 h => acons (h.mono fun y M2 ⟨xs, yss, st, l1, l2, hne, ey, hs, hz, q⟩ => anil fun B F H vs Q' W hvs s => by
    subst ey
    obtain ⟨v, w, rfl, hv, hw⟩ := p2 hvs
    have hw : w = .ref st := hw
    subst hw
    obtain ⟨p, ws, rfl, hp, pr⟩ := l1.at W hv
    obtain ⟨as, rows, e1, e2, e3, e4⟩ := lvs_at W pr l2
    subst e1
    obtain ⟨f1, ws, f2, f3⟩ := W.mem _ hs
    cases f3
    have hl : rows.flatten.length = yss.flatten.length := Paired.length e3
    refine ⟨p, st, as, rows, rfl, hp, f2, e2, by rw [hl]; exact Nat.le_trans hz (by decide), fun z => hne ?_, fun q' hq => s _ _ _ F _ (q q') (W.newl hq e3) (Same.refl F) rfl⟩
    subst z
    exact List.length_eq_zero_iff.mp e4.symm) he2) (by rw [he, he2])) hg (he := by rw [he, he2]) (hpl := by rw [he2]; rfl)
end
end G

namespace G
open PySem PySem.Spec PyProof.Rows L2
/-! ### zip of any number of lists, by a star -/
abbrev zipO (f0 : Value) (f1 : Bool) (TI TO : Addr) : Obj := { cls := .type "zip", dict := none, data := .fields #[f0, .bool f1, .bool false, .ref TI, .ref TO], slots := #[] }
abbrev tupO (vs : List Value) : Obj := { cls := .type "tuple", data := .seq vs.toArray }
/-- what the addresses of a walk keep apart -/
structure ZAp (z TI TO : Addr) (is ls : List Addr) : Prop where
  len : is.length = ls.length
  pos : 0 < is.length
  TIz : TI ≠ z
  TOz : TO ≠ z
  TIO : TI ≠ TO
  iz : ∀ i ∈ is, i ≠ z ∧ i ≠ TI ∧ i ≠ TO
  lz : ∀ l ∈ ls, l ≠ z ∧ l ≠ TO ∧ l ∉ is
  nd : is.Nodup
/-- the lists' iterators stand at k -/
abbrev ItsAt (is ls : List Addr) (k : Nat) (h : Heap) : Prop := ∀ (j : Nat) (i l : Addr), is[j]? = some i → ls[j]? = some l → h.IsListIter i l k
abbrev RowsAt (ls : List Addr) (rows : List (List Value)) (h : Heap) : Prop := ∀ (j : Nat) (l : Addr) (r : List Value), ls[j]? = some l → rows[j]? = some r → LAt h l r
section
variable {prog : Program} {w : World} {A : Around} {E : Value → Shared → Prop} {s : Shared}
theorem wpAny_alive {M : Model} {A : Around} {a : Addr} {s : Shared} {E : Value → Shared → Prop} {Q : Option Obj → Shared → Prop} (h : Q (s.heap.get? a) s) : wpAny M A (loadIfAlive a) Q E s := fun Γ p hΓ => by
  unfold loadIfAlive
  rw [Sem.wp_loadIfAlive]
  exact wpAny_pure (M := M) (A := A) (E := E) h Γ p hΓ
/-- whose tuple it is -/
def FreeT (f0 : Value) (h : Heap) : Prop := f0 = .none ∨ ∃ T : Addr, f0 = rawInt T ∧ h.get? T = none
theorem free_yes {z TI TO : Addr} {f0 : Value} {f1 : Bool} {Q : Bool → Shared → Prop} (hz : s.heap.get? z = some (zipO f0 f1 TI TO)) (hf : FreeT f0 s.heap) (h : Q true s) : wpAny (model prog w) A (Builtin.SmallTypes.ownedTupleIsFree (.ref z)) Q E s := by
  unfold Builtin.SmallTypes.ownedTupleIsFree
  rcases hf with rfl | ⟨T, rfl, hT⟩
  · exact wpAny_bind (wpAny_field hz rfl (x := .none) rfl (wpAny_pure h))
  · refine wpAny_bind (wpAny_field hz rfl (x := rawInt T) rfl ?_)
    show wpAny _ _ (loadIfAlive (T : Int).toNat >>= _) _ _ _
    refine wpAny_bind (wpAny_alive ?_)
    rw [Int.toNat_natCast, hT]
    exact wpAny_pure h
theorem free_no {z TI TO T : Addr} {o : Obj} {f1 : Bool} {Q : Bool → Shared → Prop} (hz : s.heap.get? z = some (zipO (rawInt T) f1 TI TO)) (hT : s.heap.get? T = some o) (h : ∀ h', h'.get? z = some (zipO (rawInt T) true TI TO) → Heap.SameBut z s.heap h' → Q false { s with heap := h' }) :
    wpAny (model prog w) A (Builtin.SmallTypes.ownedTupleIsFree (.ref z)) Q E s := by
  unfold Builtin.SmallTypes.ownedTupleIsFree
  refine wpAny_bind (wpAny_field hz rfl (x := rawInt T) rfl ?_)
  show wpAny _ _ (loadIfAlive (T : Int).toNat >>= _) _ _ _
  refine wpAny_bind (wpAny_alive ?_)
  rw [Int.toNat_natCast, hT]
  show wpAny _ _ (field (.ref z) 1 >>= _) _ _ _
  refine wpAny_bind (wpAny_field hz rfl (x := .bool f1) rfl ?_)
  cases f1 with
  | true => exact wpAny_pure (h _ hz (.refl ..))
  | false =>
    show wpAny _ _ (setField (.ref z) 1 (.bool true) >>= _) _ _ _
    refine wpAny_bind (wpAny_setField_rec hz (by simp) fun h₁ hz₁ hs₁ => wpAny_pure (h _ hz₁ hs₁))
/-- the loop that fills the owned tuple -/
theorem zip_fill {z TI TO : Addr} {is ls : List Addr} {k : Nat} {rows : List (List Value)} {xs ws : List Value} {f0 : Value} {f1 : Bool} {Q : Fin → Shared → Prop} (D : ZAp z TI TO is ls)
    (hz : s.heap.get? z = some (zipO f0 f1 TI TO)) (hf : FreeT f0 s.heap) (hTI : s.heap.get? TI = some (tupO (is.map Value.ref))) (hTO : s.heap.get? TO = some (tupO ws)) (hws : ws.length = is.length) (hit : ItsAt is ls k s.heap)
    (hl : RowsAt ls rows s.heap) (hr : rows.length = is.length) (hx : ∀ (j : Nat) (r : List Value), rows[j]? = some r → ∃ x, xs[j]? = some x ∧ r[k]? = some x) (hxl : xs.length = is.length) (hsz : is.length ≤ 100)
    (hQ : ∀ h' : Heap, h'.get? z = some (zipO (rawInt s.heap.objs.size) false TI TO) → h'.get? TO = some (tupO xs) → ItsAt is ls (k + 1) h' → h'.get? s.heap.objs.size = some (tupO xs) → h'.objs.size = s.heap.objs.size + 1 →
      (∀ c o, c ≠ z → c ≠ TO → c ∉ is → s.heap.get? c = some o → h'.get? c = some o) → Q (.done (.ret (.ref s.heap.objs.size))) { s with heap := h' }) :
    wpAny (model prog w) A (Builtin.«zip.__next__» ⟨[.ref z], []⟩) Q E s := by
  show wpAny _ _ (field (.ref z) 2 >>= _) _ _ _
  refine wpAny_bind (wpAny_field hz rfl (x := .bool false) rfl ?_)
  show wpAny _ _ (field (.ref z) 3 >>= _) _ _ _
  refine wpAny_bind (wpAny_field hz rfl (x := .ref TI) rfl ?_)
  refine wpAny_bind (wpAny_seqItems hTI rfl ?_)
  have ne : ((is.map Value.ref).toArray).isEmpty = false := by
    have := D.pos
    cases is with
    | nil => simp at this
    | cons i is => simp
  simp only [ne, Bool.false_eq_true, if_false]
  show wpAny _ _ (Builtin.SmallTypes.ownedTupleIsFree (.ref z) >>= _) _ _ _
  refine wpAny_bind (free_yes hz hf ?_)
  simp only [if_true]
  refine wpAny_bind (wpAny_rule ?_)
  refine wpAny_bind (wpAny_field hz rfl (x := .ref TO) rfl ?_)
  refine wpAny_bind (wpAny_setField_rec hz (by simp) fun h₁ hz₁ hs₁ => ?_)
  replace hz₁ : h₁.get? z = some (zipO .ellipsis f1 TI TO) := hz₁
  refine wpAny_bind ?_
  have lenL : ((is.map Value.ref).toArray.toList.zipIdx).length = is.length := by simp
  refine wpAny_forIn_list _ (fun rest b s' => b = (none, ()) ∧ ∃ (j : Nat) (h' : Heap), s' = { s with heap := h' } ∧ rest = ((is.map Value.ref).toArray.toList.zipIdx).drop j ∧ j ≤ is.length ∧ h'.get? z = some (zipO .ellipsis f1 TI TO) ∧ h'.get? TO = some (tupO (xs.take j ++ ws.drop j)) ∧
    (∀ (m : Nat) (i l : Addr), is[m]? = some i → ls[m]? = some l → h'.IsListIter i l (if m < j then k + 1 else k)) ∧ h'.objs.size = s.heap.objs.size ∧ ∀ c o, c ≠ z → c ≠ TO → c ∉ is → s.heap.get? c = some o → h'.get? c = some o) _ ?_ ?_ _ _ ?_
  · rintro x rest b s' ⟨rfl, j, h', rfl, hrest, hj, g1, g2, g3, g4, g5⟩
    have hjn : j < is.length := by
      refine Nat.lt_of_not_le fun hle => ?_
      rw [List.drop_eq_nil_of_le (by rw [lenL]; exact hle)] at hrest
      cases hrest
    have hjl : j < ls.length := by rw [← D.len]; exact hjn
    have hjr : j < rows.length := by rw [hr]; exact hjn
    have ex : x = (Value.ref is[j], j) ∧ rest = ((is.map Value.ref).toArray.toList.zipIdx).drop (j + 1) := by
      rw [List.drop_eq_getElem_cons (by rw [lenL]; exact hjn)] at hrest
      injection hrest with e1 e2
      refine ⟨?_, e2⟩
      rw [e1]
      simp
    obtain ⟨rfl, hrest2⟩ := ex
    have ei : is[j]? = some is[j] := List.getElem?_eq_getElem hjn
    have el : ls[j]? = some ls[j] := List.getElem?_eq_getElem hjl
    have er : rows[j]? = some rows[j] := List.getElem?_eq_getElem hjr
    have mi := D.iz is[j] (List.getElem_mem hjn)
    have ml := D.lz ls[j] (List.getElem_mem hjl)
    obtain ⟨y, y1, y2⟩ := hx j _ er
    have hit0 := g3 j _ _ ei el
    rw [if_neg (Nat.lt_irrefl j)] at hit0
    have hl0 := (hl j _ _ el er).keep fun o q => g5 ls[j] o ml.1 ml.2.1 ml.2.2 q
    refine wpAny_bind (wpAny_onRaise ?_)
    show wpAny _ _ (Builtin.SmallTypes.nextOf (.ref is[j]) >>= _) _ _ _
    refine wpAny_bind (wpAny_nextOf_list_item hit0 hl0.isList (x := y) (by simpa using y2) fun h₂ hit2 sb => wpAny_pure ?_)
    have k2 : ∀ c o, c ≠ is[j] → h'.get? c = some o → h₂.get? c = some o := fun c o hc q => (sb.2 c hc).trans q
    have t2 := k2 TO _ (Ne.symm mi.2.2) g2
    refine wpAny_bind (wpAny_seqItems t2 rfl ?_)
    refine wpAny_bind (wpAny_updateSeq t2 rfl ?_ (by rw [List.size_toArray, List.length_append, List.length_take, List.length_drop, hxl, hws, sizeLine_eq]; omega) (by simp [hxl, hws, sizeLine_eq]; omega))
    refine wpAny_bind (wpAny_letGo (wpAny_pure ?_))
    have k3 : ∀ c o, c ≠ TO → h₂.get? c = some o → (h₂.update TO (Obj.mapSeq fun x => x.setIfInBounds j y)).get? c = some o := fun c o hc q => by
      rw [Heap.get?_update_other _ _ (Ne.symm hc)]
      exact q
    refine ⟨rfl, j + 1, _, rfl, hrest2, hjn, k3 _ _ D.TOz.symm (k2 _ _ (Ne.symm mi.1) g1), ?_, fun m i l e1 e2 => ?_, ?_, fun c o c1 c2 c3 q => k3 c o c2 (k2 c o (fun z => c3 (z ▸ List.getElem_mem hjn)) (g5 c o c1 c2 c3 q))⟩
    · rw [Heap.get?_update_self _ t2 rfl]
      have yj : j < xs.length := by rw [hxl]; exact hjn
      have wj : j < ws.length := by rw [hws]; exact hjn
      have e1 : xs.take (j + 1) = xs.take j ++ [y] := by
        rw [List.take_add_one, y1]
        rfl
      have e2 : ws.drop j = ws[j] :: ws.drop (j + 1) := List.drop_eq_getElem_cons wj
      have e3 : (xs.take j ++ ws.drop j).set j y = xs.take (j + 1) ++ ws.drop (j + 1) := by
        rw [e1, e2, List.set_append_right _ _ (by rw [List.length_take]; omega)]
        have e4 : j - (xs.take j).length = 0 := by rw [List.length_take]; omega
        rw [e4, List.set_cons_zero, List.append_assoc]
        rfl
      show some (Obj.mapSeq _ (tupO _)) = some (tupO _)
      rw [← e3]
      simp [Obj.mapSeq]
    · have ne : i ≠ TO := (D.iz i (List.mem_of_getElem? e1)).2.2
      by_cases hm : m = j
      · subst hm
        rw [ei] at e1
        rw [el] at e2
        cases e1
        cases e2
        rw [if_pos (Nat.lt_succ_self m)]
        exact hit2.at fun o q => k3 _ o ne q
      · have z := g3 m i l e1 e2
        have hne : i ≠ is[j] := fun q => by
          obtain ⟨hm1, hm2⟩ := List.getElem?_eq_some_iff.mp e1
          exact hm ((List.getElem_inj D.nd).mp (hm2.trans q))
        have e4 : (m < j + 1) = (m < j) := propext ⟨fun q => by omega, fun q => by omega⟩
        simp only [e4]
        exact z.at fun o q => k3 _ o ne (k2 _ o hne q)
    · show (h₂.update TO _).objs.size = _
      rw [(Heap.SameBut.update h₂ TO _).1, sb.1]
      exact g4
  · rintro b s' ⟨rfl, j, h', rfl, hrest, hj, g1, g2, g3, g4, g5⟩
    have hjn : j = is.length := by
      refine Nat.le_antisymm hj (Nat.le_of_not_lt fun hlt => ?_)
      rw [List.drop_eq_getElem_cons (by rw [lenL]; exact hlt)] at hrest
      cases hrest
    subst hjn
    have t2 : h'.get? TO = some (tupO xs) := by
      rw [g2, List.take_of_length_le (by rw [hxl]; exact Nat.le_refl _), List.drop_eq_nil_of_le (by rw [hws]; exact Nat.le_refl _), List.append_nil]
    show wpAny _ _ (seqItems? (.ref TO) >>= _) _ _ _
    refine wpAny_bind (wpAny_seqItems t2 rfl ?_)
    have exs : xs.toArray.toList = xs := by simp
    show wpAny _ _ (newTuple xs.toArray.toList >>= _) _ _ _
    rw [exs]
    refine wpAny_bind (wpAny_newTuple ?_ (by rw [hxl, sizeLine_eq]; omega))
    show wpAny _ _ (Builtin.SmallTypes.ownedTupleHandOut (.ref z) (.ref h'.objs.size) >>= _) _ _ _
    refine wpAny_bind ?_
    unfold Builtin.SmallTypes.ownedTupleHandOut
    have kp : ∀ c o, h'.get? c = some o → (h'.push (tupO xs)).get? c = some o := fun c o q => Heap.get?_push_of_some _ q
    refine wpAny_bind (wpAny_setField_rec (kp _ _ g1) (by simp) fun h₇ hz₇ hs₇ => ?_)
    replace hz₇ : h₇.get? z = some (zipO (rawInt h'.objs.size) f1 TI TO) := hz₇
    refine wpAny_setField_rec hz₇ (by simp) fun h₈ hz₈ hs₈ => ?_
    replace hz₈ : h₈.get? z = some (zipO (rawInt h'.objs.size) false TI TO) := hz₈
    have up : ∀ c o, c ≠ z → h'.get? c = some o → h₈.get? c = some o := fun c o c1 q => (hs₈.2 c c1).trans ((hs₇.2 c c1).trans (kp c o q))
    have hzlt : z < h'.objs.size := Heap.lt_size g1
    have hT : h₈.get? h'.objs.size = some (tupO xs) := (hs₈.2 _ (Nat.ne_of_gt hzlt)).trans ((hs₇.2 _ (Nat.ne_of_gt hzlt)).trans (Heap.get?_push_size _ rfl))
    have hz8 : h₈.objs.size = h'.objs.size + 1 := by rw [hs₈.1, hs₇.1, Heap.size_push]
    rw [g4] at hz₈ hT hz8
    refine wpAny_pure ?_
    show Q (.done (.ret (.ref h'.objs.size))) _
    rw [g4]
    refine hQ h₈ hz₈ (up _ _ D.TOz t2) (fun m i l e1 e2 => ?_) hT hz8 fun c o c1 c2 c3 q => up c o c1 (g5 c o c1 c2 c3 q)
    have q := g3 m i l e1 e2
    rw [if_pos (List.getElem?_eq_some_iff.mp e1).1] at q
    exact q.at fun o q => up i o (D.iz i (List.mem_of_getElem? e1)).1 q
  · refine ⟨rfl, 0, h₁, rfl, rfl, Nat.zero_le _, hz₁, ?_, fun m i l e1 e2 => ?_, hs₁.1, fun c o c1 c2 c3 q => (hs₁.2 c c1).trans q⟩
    · exact (hs₁.2 _ D.TOz).trans hTO
    · rw [if_neg (Nat.not_lt_zero m)]
      exact (hit m i l e1 e2).at fun o q => (hs₁.2 _ (D.iz i (List.mem_of_getElem? e1)).1).trans q
/-- the tuple that was handed out is still there: a new one is made -/
theorem zip_anew {z TI TO T : Addr} {oT : Obj} {is ls : List Addr} {k : Nat} {rows : List (List Value)} {xs : List Value} {f1 : Bool} {Q : Fin → Shared → Prop} (D : ZAp z TI TO is ls)
    (hz : s.heap.get? z = some (zipO (rawInt T) f1 TI TO)) (hT : s.heap.get? T = some oT) (hTI : s.heap.get? TI = some (tupO (is.map Value.ref))) (hit : ItsAt is ls k s.heap)
    (hl : RowsAt ls rows s.heap) (hr : rows.length = is.length) (hx : ∀ (j : Nat) (r : List Value), rows[j]? = some r → ∃ x, xs[j]? = some x ∧ r[k]? = some x) (hxl : xs.length = is.length) (hsz : is.length ≤ 100)
    (hQ : ∀ h' : Heap, h'.get? z = some (zipO (rawInt T) true TI TO) → ItsAt is ls (k + 1) h' → h'.get? s.heap.objs.size = some (tupO xs) → h'.objs.size = s.heap.objs.size + 1 →
      (∀ c o, c ≠ z → c ∉ is → s.heap.get? c = some o → h'.get? c = some o) → Q (.done (.ret (.ref s.heap.objs.size))) { s with heap := h' }) :
    wpAny (model prog w) A (Builtin.«zip.__next__» ⟨[.ref z], []⟩) Q E s := by
  show wpAny _ _ (field (.ref z) 2 >>= _) _ _ _
  refine wpAny_bind (wpAny_field hz rfl (x := .bool false) rfl ?_)
  show wpAny _ _ (field (.ref z) 3 >>= _) _ _ _
  refine wpAny_bind (wpAny_field hz rfl (x := .ref TI) rfl ?_)
  refine wpAny_bind (wpAny_seqItems hTI rfl ?_)
  have ne : ((is.map Value.ref).toArray).isEmpty = false := by
    have := D.pos
    cases is with
    | nil => simp at this
    | cons i is => simp
  simp only [ne, Bool.false_eq_true, if_false]
  show wpAny _ _ (Builtin.SmallTypes.ownedTupleIsFree (.ref z) >>= _) _ _ _
  refine wpAny_bind (free_no hz hT fun h₁ hz₁ hs₁ => ?_)
  simp only [Bool.false_eq_true, if_false]
  refine wpAny_bind ?_
  rw [← Array.forIn_toList, show (is.map Value.ref).toArray.toList = is.map Value.ref by simp]
  refine wpAny_forIn_list _ (fun rest b s' => ∃ (j : Nat) (h' : Heap), b = (none, (xs.take j).toArray) ∧ s' = { s with heap := h' } ∧ rest = (is.map Value.ref).drop j ∧ j ≤ is.length ∧ h'.get? z = some (zipO (rawInt T) true TI TO) ∧
    (∀ (m : Nat) (i l : Addr), is[m]? = some i → ls[m]? = some l → h'.IsListIter i l (if m < j then k + 1 else k)) ∧ h'.objs.size = s.heap.objs.size ∧ ∀ c o, c ≠ z → c ∉ is → s.heap.get? c = some o → h'.get? c = some o) _ ?_ ?_ _ _ ?_
  · rintro x rest b s' ⟨j, h', rfl, rfl, hrest, hj, g1, g3, g4, g5⟩
    have hjn : j < is.length := by
      refine Nat.lt_of_not_le fun hle => ?_
      rw [List.drop_eq_nil_of_le (by rw [List.length_map]; exact hle)] at hrest
      cases hrest
    have hjl : j < ls.length := by rw [← D.len]; exact hjn
    have hjr : j < rows.length := by rw [hr]; exact hjn
    have ex : x = Value.ref is[j] ∧ rest = (is.map Value.ref).drop (j + 1) := by
      rw [List.drop_eq_getElem_cons (by rw [List.length_map]; exact hjn)] at hrest
      injection hrest with e1 e2
      refine ⟨?_, e2⟩
      rw [e1]
      simp
    obtain ⟨rfl, hrest2⟩ := ex
    have ei : is[j]? = some is[j] := List.getElem?_eq_getElem hjn
    have el : ls[j]? = some ls[j] := List.getElem?_eq_getElem hjl
    have er : rows[j]? = some rows[j] := List.getElem?_eq_getElem hjr
    have mi := D.iz is[j] (List.getElem_mem hjn)
    have ml := D.lz ls[j] (List.getElem_mem hjl)
    obtain ⟨y, y1, y2⟩ := hx j _ er
    have hit0 := g3 j _ _ ei el
    rw [if_neg (Nat.lt_irrefl j)] at hit0
    have hl0 := (hl j _ _ el er).keep fun o q => g5 ls[j] o ml.1 ml.2.2 q
    refine wpAny_bind (wpAny_holding ?_)
    show wpAny _ _ (Builtin.SmallTypes.nextOf (.ref is[j]) >>= _) _ _ _
    refine wpAny_bind (wpAny_nextOf_list_item hit0 hl0.isList (x := y) (by simpa using y2) fun h₂ hit2 sb => wpAny_pure ?_)
    have k2 : ∀ c o, c ≠ is[j] → h'.get? c = some o → h₂.get? c = some o := fun c o hc q => (sb.2 c hc).trans q
    refine wpAny_pure ⟨j + 1, h₂, ?_, rfl, hrest2, hjn, k2 _ _ (Ne.symm mi.1) g1, fun m i l e1 e2 => ?_, by rw [sb.1]; exact g4, fun c o c1 c3 q => k2 c o (fun z => c3 (z ▸ List.getElem_mem hjn)) (g5 c o c1 c3 q)⟩
    · have e1 : xs.take (j + 1) = xs.take j ++ [y] := by
        rw [List.take_add_one, y1]
        rfl
      rw [e1]
      simp
    · by_cases hm : m = j
      · subst hm
        rw [ei] at e1
        rw [el] at e2
        cases e1
        cases e2
        rw [if_pos (Nat.lt_succ_self m)]
        exact hit2
      · have z := g3 m i l e1 e2
        have hne : i ≠ is[j] := fun q => by
          obtain ⟨hm1, hm2⟩ := List.getElem?_eq_some_iff.mp e1
          exact hm ((List.getElem_inj D.nd).mp (hm2.trans q))
        have e4 : (m < j + 1) = (m < j) := propext ⟨fun q => by omega, fun q => by omega⟩
        simp only [e4]
        exact z.at fun o q => k2 _ o hne q
  · rintro b s' ⟨j, h', rfl, rfl, hrest, hj, g1, g3, g4, g5⟩
    have hjn : j = is.length := by
      refine Nat.le_antisymm hj (Nat.le_of_not_lt fun hlt => ?_)
      rw [List.drop_eq_getElem_cons (by rw [List.length_map]; exact hlt)] at hrest
      cases hrest
    subst hjn
    have exs : (xs.take is.length).toArray.toList = xs := by
      rw [List.take_of_length_le (by rw [hxl]; exact Nat.le_refl _)]
    show wpAny _ _ (newTuple (xs.take is.length).toArray.toList >>= _) _ _ _
    rw [exs]
    refine wpAny_bind (wpAny_newTuple ?_ (by rw [hxl, sizeLine_eq]; omega))
    have kp : ∀ c o, h'.get? c = some o → (h'.push (tupO xs)).get? c = some o := fun c o q => Heap.get?_push_of_some _ q
    have hT : (h'.push (tupO xs)).get? h'.objs.size = some (tupO xs) := Heap.get?_push_size _ rfl
    have hz8 : (h'.push (tupO xs)).objs.size = h'.objs.size + 1 := Heap.size_push ..
    refine wpAny_pure ?_
    show Q (.done (.ret (.ref h'.objs.size))) _
    rw [g4] at hT hz8 ⊢
    refine hQ _ (kp _ _ g1) (fun m i l e1 e2 => ?_) hT hz8 fun c o c1 c3 q => kp c o (g5 c o c1 c3 q)
    have q := g3 m i l e1 e2
    rw [if_pos (List.getElem?_eq_some_iff.mp e1).1] at q
    exact q.at fun o q => kp i o q
  · refine ⟨0, h₁, rfl, rfl, by simp, Nat.zero_le _, hz₁, fun m i l e1 e2 => ?_, hs₁.1, fun c o c1 c3 q => (hs₁.2 c c1).trans q⟩
    rw [if_neg (Nat.not_lt_zero m)]
    exact (hit m i l e1 e2).at fun o q => (hs₁.2 _ (D.iz i (List.mem_of_getElem? e1)).1).trans q
/-- the first list is at its end -/
theorem zip_end {z TI TO : Addr} {is ls : List Addr} {k : Nat} {rows : List (List Value)} {f0 : Value} {f1 : Bool} {Q : Fin → Shared → Prop} (hh : A.handled = none) (D : ZAp z TI TO is ls)
    (hz : s.heap.get? z = some (zipO f0 f1 TI TO)) (hf : f0 = .none ∨ ∃ T : Addr, f0 = rawInt T) (hTI : s.heap.get? TI = some (tupO (is.map Value.ref))) (hit : ItsAt is ls k s.heap)
    (hl : RowsAt ls rows s.heap) (hr : rows.length = is.length) (hx : ∀ r, rows[0]? = some r → r[k]? = none)
    (hE : ∀ h' e, (∀ c o, c ≠ z → c ∉ is → s.heap.get? c = some o → h'.get? c = some o) → (∃ o, h'.get? e = some o ∧ o.cls = .type "StopIteration") → E (.ref e) { s with heap := h' }) :
    wpAny (model prog w) A (Builtin.«zip.__next__» ⟨[.ref z], []⟩) Q E s := by
  have h0 : 0 < is.length := D.pos
  have h0l : 0 < ls.length := by rw [← D.len]; exact h0
  have h0r : 0 < rows.length := by rw [hr]; exact h0
  have ei : is[0]? = some is[0] := List.getElem?_eq_getElem h0
  have el : ls[0]? = some ls[0] := List.getElem?_eq_getElem h0l
  have er : rows[0]? = some rows[0] := List.getElem?_eq_getElem h0r
  have mi := D.iz is[0] (List.getElem_mem h0)
  have ml := D.lz ls[0] (List.getElem_mem h0l)
  show wpAny _ _ (field (.ref z) 2 >>= _) _ _ _
  refine wpAny_bind (wpAny_field hz rfl (x := .bool false) rfl ?_)
  show wpAny _ _ (field (.ref z) 3 >>= _) _ _ _
  refine wpAny_bind (wpAny_field hz rfl (x := .ref TI) rfl ?_)
  refine wpAny_bind (wpAny_seqItems hTI rfl ?_)
  obtain ⟨i0, ir, eis⟩ : ∃ i0 ir, is = i0 :: ir := by
    cases is with
    | nil => simp at h0
    | cons i is => exact ⟨i, is, rfl⟩
  have ei0 : is[0] = i0 := by simp [eis]
  have ne : ((is.map Value.ref).toArray).isEmpty = false := by simp [eis]
  simp only [ne, Bool.false_eq_true, if_false]
  show wpAny _ _ (Builtin.SmallTypes.ownedTupleIsFree (.ref z) >>= _) _ _ _
  have both : FreeT f0 s.heap ∨ ∃ (T : Addr) (o : Obj), f0 = rawInt T ∧ s.heap.get? T = some o := by
    rcases hf with e | ⟨T, e⟩
    · exact .inl (.inl e)
    · cases q : s.heap.get? T with
      | none => exact .inl (.inr ⟨T, e, q⟩)
      | some o => exact .inr ⟨T, o, e, q⟩
  have it0 := hit 0 _ _ ei el
  have l0 := hl 0 _ _ el er
  rcases both with hf | ⟨T, o, rfl, hT⟩
  · refine wpAny_bind (free_yes hz hf ?_)
    simp only [if_true]
    refine wpAny_bind (wpAny_rule ?_)
    refine wpAny_bind (wpAny_field hz rfl (x := .ref TO) rfl ?_)
    refine wpAny_bind (wpAny_setField_rec hz (by simp) fun h₁ hz₁ hs₁ => ?_)
    replace hz₁ : h₁.get? z = some (zipO .ellipsis f1 TI TO) := hz₁
    refine wpAny_bind ?_
    have eL : (is.map Value.ref).toArray.toList.zipIdx = (Value.ref is[0], 0) :: (ir.map Value.ref).zipIdx 1 := by simp [eis]
    rw [eL, List.forIn_cons]
    refine wpAny_bind (wpAny_bind (wpAny_onRaise ?_))
    show wpAny _ _ (Builtin.SmallTypes.nextOf (.ref is[0]) >>= _) _ _ _
    refine wpAny_bind (wpAny_nextOf_list_end hh (it0.at fun o q => (hs₁.2 _ mi.1).trans q) (l0.keep fun o q => (hs₁.2 _ ml.1).trans q).isList (by simpa using hx _ er) fun h₂ e hs₂ he => ?_)
    obtain ⟨oe, hoe, hce⟩ := he
    have hz₂ : h₂.get? z = some (zipO .ellipsis f1 TI TO) := hs₂ _ _ (Ne.symm mi.1) hz₁
    have hez : e ≠ z := fun x => by subst x; rw [hz₂] at hoe; cases hoe; simp at hce
    refine wpAny_setField_rec hz₂ (by simp) fun h₃ _ hs₃ => hE h₃ e (fun c o c1 c3 x => (hs₃.2 c c1).trans (hs₂ _ _ (fun q => c3 (q ▸ List.getElem_mem h0)) ((hs₁.2 c c1).trans x))) ⟨oe, (hs₃.2 _ hez).trans hoe, hce⟩
  · refine wpAny_bind (free_no hz hT fun h₁ hz₁ hs₁ => ?_)
    simp only [Bool.false_eq_true, if_false]
    refine wpAny_bind ?_
    rw [← Array.forIn_toList]
    have eL : (is.map Value.ref).toArray.toList = Value.ref is[0] :: ir.map Value.ref := by simp [eis]
    rw [eL, List.forIn_cons]
    refine wpAny_bind (wpAny_bind (wpAny_holding ?_))
    show wpAny _ _ (Builtin.SmallTypes.nextOf (.ref is[0]) >>= _) _ _ _
    refine wpAny_bind (wpAny_nextOf_list_end hh (it0.at fun o q => (hs₁.2 _ mi.1).trans q) (l0.keep fun o q => (hs₁.2 _ ml.1).trans q).isList (by simpa using hx _ er) fun h₂ e hs₂ he => ?_)
    exact hE h₂ e (fun c o c1 c3 x => hs₂ _ _ (fun q => c3 (q ▸ List.getElem_mem h0)) ((hs₁.2 c c1).trans x)) he
end
end G

namespace G
open PySem PySem.Spec PyProof.Rows L2
abbrev zIs (a0 n : Nat) : List Addr := (List.range n).map fun m => a0 + m
section
variable {prog : Program} {w : World} {A : Around} {E : Value → Shared → Prop} {s : Shared}
theorem newClass_zip (us : List Value) : Builtin.SmallTypes.newClass "zip" ⟨.type "zip" :: us, []⟩ = pure (.type "zip", us) := by
  have hsub := sub_zip
  unfold Builtin.SmallTypes.newClass
  simp only [isType, hsub, pure_bind, Bool.not_true, Bool.false_eq_true, if_false]
theorem zIs_at {a0 n j i : Nat} (h : (zIs a0 n)[j]? = some i) : i = a0 + j ∧ j < n := by
  rw [List.getElem?_map] at h
  cases e : (List.range n)[j]? with
  | none =>
    rw [e] at h
    cases h
  | some m =>
    rw [e] at h
    obtain ⟨h1, h2⟩ := List.getElem?_eq_some_iff.mp e
    rw [List.getElem_range] at h2
    have h3 : a0 + m = i := Option.some.inj h
    rw [List.length_range] at h1
    exact ⟨by omega, h1⟩
theorem zip_made {ls : List Addr} {rows : List (List Value)} {Q : Value → Shared → Prop} (hlr : ls.length = rows.length) (hl : RowsAt ls rows s.heap) (hsz : ls.length ≤ 100)
    (hQ : ∀ h' : Heap, h'.get? (s.heap.objs.size + ls.length + 2) = some (zipO .none false (s.heap.objs.size + ls.length) (s.heap.objs.size + ls.length + 1)) → h'.get? (s.heap.objs.size + ls.length) = some (tupO ((zIs s.heap.objs.size ls.length).map Value.ref)) →
      h'.get? (s.heap.objs.size + ls.length + 1) = some (tupO (List.replicate ls.length .none)) → ItsAt (zIs s.heap.objs.size ls.length) ls 0 h' → h'.objs.size = s.heap.objs.size + ls.length + 3 → (∀ c o, s.heap.get? c = some o → h'.get? c = some o) →
      Q (.ref (s.heap.objs.size + ls.length + 2)) { s with heap := h' }) :
    wpAny (model prog w) A (Builtin.«zip.__new__» ⟨.type "zip" :: ls.map Value.ref, []⟩) (fun f s' => ∃ v, f = .done (.ret v) ∧ Q v s') E s := by
  unfold Builtin.«zip.__new__»
  rw [newClass_zip]
  refine wpAny_bind (wpAny_pure ?_)
  show wpAny _ _ (Builtin.SmallTypes.iterAll (ls.map Value.ref) >>= _) _ _ _
  refine wpAny_bind ?_
  unfold Builtin.SmallTypes.iterAll
  refine wpAny_bind ?_
  refine wpAny_forIn_list _ (fun rest b s' => ∃ (j : Nat) (h' : Heap), b = ((zIs s.heap.objs.size j).map Value.ref).toArray ∧ s' = { s with heap := h' } ∧ rest = (ls.map Value.ref).drop j ∧ j ≤ ls.length ∧
    (∀ (m : Nat) (l : Addr), m < j → ls[m]? = some l → h'.IsListIter (s.heap.objs.size + m) l 0) ∧ h'.objs.size = s.heap.objs.size + j ∧ ∀ c o, s.heap.get? c = some o → h'.get? c = some o) _ ?_ ?_ _ _ ?_
  · rintro x rest b s' ⟨j, h', rfl, rfl, hrest, hj, g3, g4, g5⟩
    have hjn : j < ls.length := by
      refine Nat.lt_of_not_le fun hle => ?_
      rw [List.drop_eq_nil_of_le (by rw [List.length_map]; exact hle)] at hrest
      cases hrest
    have ex : x = Value.ref ls[j] ∧ rest = (ls.map Value.ref).drop (j + 1) := by
      rw [List.drop_eq_getElem_cons (by rw [List.length_map]; exact hjn)] at hrest
      injection hrest with e1 e2
      refine ⟨?_, e2⟩
      rw [e1]
      simp
    obtain ⟨rfl, hrest2⟩ := ex
    have hjr : j < rows.length := by rw [← hlr]; exact hjn
    have lj := (hl j _ _ (List.getElem?_eq_getElem hjn) (List.getElem?_eq_getElem hjr)).keep fun o q => g5 _ o q
    refine wpAny_bind (wpAny_holding (wpAny_pyIter_list (s := { s with heap := h' }) lj.isList (wpAny_pure ?_)))
    have kp : ∀ c o, h'.get? c = some o → (h'.push { cls := .type "list_iterator", data := .fields #[.ref ls[j], .int 0 0] }).get? c = some o := fun c o q => Heap.get?_push_of_some _ q
    refine ⟨j + 1, _, ?_, rfl, hrest2, hjn, fun m l hm e => ?_, ?_, fun c o q => kp c o (g5 c o q)⟩
    · have ez : zIs s.heap.objs.size (j + 1) = zIs s.heap.objs.size j ++ [s.heap.objs.size + j] := by
        unfold zIs
        rw [List.range_succ, List.map_append]
        rfl
      rw [ez, List.map_append, ← g4]
      simp
    · by_cases hmj : m = j
      · subst hmj
        rw [List.getElem?_eq_getElem hjn] at e
        cases e
        rw [← g4]
        exact ⟨_, Heap.get?_push_size _ rfl, rfl, rfl⟩
      · exact (g3 m l (by omega) e).at fun o q => kp _ o q
    · rw [Heap.size_push, g4]
      omega
  · rintro b s' ⟨j, h', rfl, rfl, hrest, hj, g3, g4, g5⟩
    have hjn : j = ls.length := by
      refine Nat.le_antisymm hj (Nat.le_of_not_lt fun hlt => ?_)
      rw [List.drop_eq_getElem_cons (by rw [List.length_map]; exact hlt)] at hrest
      cases hrest
    subst hjn
    refine wpAny_pure ?_
    have e1 : (((zIs s.heap.objs.size ls.length).map Value.ref).toArray).toList = (zIs s.heap.objs.size ls.length).map Value.ref := by simp
    rw [e1]
    have hlen : ((zIs s.heap.objs.size ls.length).map Value.ref).length = ls.length := by simp
    refine wpAny_bind (wpAny_newTuple ?_ (by rw [hlen, sizeLine_eq]; omega))
    refine wpAny_bind (wpAny_newTuple ?_ (by rw [List.length_map, hlen, sizeLine_eq]; omega))
    simp only [Builtin.SmallTypes.newRecord, Builtin.SmallTypes.ownedTupleFields]
    show wpAny _ _ (newObj (.type "zip") (.fields _) >>= _) _ _ _
    refine wpAny_bind (wpAny_newObj_type ?_)
    refine wpAny_pure ⟨_, rfl, ?_⟩
    have e2 : ((zIs s.heap.objs.size ls.length).map Value.ref).map (fun _ => Value.none) = List.replicate ls.length .none := by
      rw [List.map_const', hlen]
    have z1 : (h'.push (tupO ((zIs s.heap.objs.size ls.length).map Value.ref))).objs.size = s.heap.objs.size + ls.length + 1 := by rw [Heap.size_push, g4]
    have z2 : ((h'.push (tupO ((zIs s.heap.objs.size ls.length).map Value.ref))).push (tupO (((zIs s.heap.objs.size ls.length).map Value.ref).map fun _ => Value.none))).objs.size = s.heap.objs.size + ls.length + 2 := by rw [Heap.size_push, z1]
    have goal := hQ (((h'.push (tupO ((zIs s.heap.objs.size ls.length).map Value.ref))).push (tupO (((zIs s.heap.objs.size ls.length).map Value.ref).map fun _ => Value.none))).push
      (zipO .none false h'.objs.size (h'.push (tupO ((zIs s.heap.objs.size ls.length).map Value.ref))).objs.size)) ?_ ?_ ?_ ?_ ?_ ?_
    · show Q (.ref ((h'.push (tupO ((zIs s.heap.objs.size ls.length).map Value.ref))).push (tupO (((zIs s.heap.objs.size ls.length).map Value.ref).map fun _ => Value.none))).objs.size) _
      rw [z2]
      exact goal
    · rw [← z2, ← z1, ← g4]
      exact Heap.get?_push_size _ rfl
    · rw [← g4]
      exact Heap.get?_push_of_some _ (Heap.get?_push_of_some _ (Heap.get?_push_size _ rfl))
    · rw [← z1, ← e2]
      exact Heap.get?_push_of_some _ (Heap.get?_push_size _ rfl)
    · intro m i l e1 e2
      obtain ⟨rfl, hm⟩ := zIs_at e1
      exact (g3 m l hm e2).at fun o q => Heap.get?_push_of_some _ (Heap.get?_push_of_some _ (Heap.get?_push_of_some _ q))
    · rw [Heap.size_push, z2]
    · exact fun c o q => Heap.get?_push_of_some _ (Heap.get?_push_of_some _ (Heap.get?_push_of_some _ (g5 c o q)))
  · exact ⟨0, s.heap, by simp, rfl, rfl, Nat.zero_le _, fun m l hm => absurd hm (Nat.not_lt_zero m), rfl, fun c o q => q⟩
theorem zip_apart {a0 : Nat} {ls : List Addr} (hp : 0 < ls.length) (hl : ∀ l ∈ ls, l < a0) : ZAp (a0 + ls.length + 2) (a0 + ls.length) (a0 + ls.length + 1) (zIs a0 ls.length) ls where
  len := by simp
  pos := by simpa using hp
  TIz := show (a0 + ls.length : Nat) ≠ a0 + ls.length + 2 by omega
  TOz := show (a0 + ls.length + 1 : Nat) ≠ a0 + ls.length + 2 by omega
  TIO := show (a0 + ls.length : Nat) ≠ a0 + ls.length + 1 by omega
  iz := fun i hi => by
    obtain ⟨m, hm, e⟩ := List.mem_map.mp hi
    have hm := List.mem_range.mp hm
    subst e
    have q := Nat.add_lt_add_left hm a0
    have q : (a0 + m : Nat) < a0 + ls.length := q
    exact ⟨Nat.ne_of_lt (Nat.lt_succ_of_lt (Nat.lt_succ_of_lt q)), Nat.ne_of_lt q, Nat.ne_of_lt (Nat.lt_succ_of_lt q)⟩
  lz := fun l h => by
    have this : (l : Nat) < a0 := hl l h
    refine ⟨Nat.ne_of_lt (Nat.lt_add_right 2 (Nat.lt_add_right ls.length this)), Nat.ne_of_lt (Nat.lt_add_right 1 (Nat.lt_add_right ls.length this)), fun hi => ?_⟩
    obtain ⟨m, hm, e⟩ := List.mem_map.mp hi
    have e : a0 + m = l := e
    rw [← e] at this
    exact Nat.not_lt.mpr (Nat.le_add_right a0 m) this
  nd := by
    refine List.pairwise_map.mpr (List.nodup_range.imp fun {a b} h => ?_)
    show (a0 + a : Nat) ≠ a0 + b
    omega
end
end G

namespace G
open PySem PySem.Spec PyProof.Rows L2
abbrev RowsH (H : Hp) (ls : List Addr) (rs : List (List V)) : Prop := Paired (fun (a : Addr) r => H a = some (HO.lst r)) ls rs
/-- the lists at ls as they stand at each turn, the items in a new tuple -/
def ItzN (ls : List Addr) : It :=
  ⟨fun i H => ∃ rs, RowsH H ls rs ∧ ∀ r ∈ rs, i < r.length,
    fun i H v H' => ∃ T vs, v = .ref T ∧ H T = none ∧ H' = upd H T (.tup vs) ∧ ∀ rs, RowsH H ls rs → Paired (fun (r : List V) v => r[i]? = some v) rs vs,
    fun i H => ∃ rs, RowsH H ls rs ∧ ∀ r ∈ rs, r.length ≤ i⟩
section
variable {X : Cx}
theorem rowsV {pins : List (Addr × Obj)} {σ : L2.St} {H : Hp} {s : Shared} (I : Inv X pins σ H s) : ∀ {as : List Addr} {rows : List (List V)}, RowsH H as rows →
    ∃ rv : List (List Value), Paired Vals rows rv ∧ as.length = rv.length ∧ RowsAt as rv s.heap
  | [], _, .nil => ⟨[], .nil, rfl, fun j a r h => by simp at h⟩
  | a :: as, r :: rows, .cons h t => by
    obtain ⟨rv, h1, h2, h4⟩ := rowsV I t
    obtain ⟨z, its, n, g1, g2, g3⟩ := I.lstM h
    refine ⟨its :: rv, .cons g1 h1, by rw [List.length_cons, List.length_cons, h2], fun j a' r' e1 e2 => ?_⟩
    cases j with
    | zero =>
      have e1 : a = a' := Option.some.inj e1
      have e2 : its = r' := Option.some.inj e2
      subst e1 e2
      exact ⟨n, g3⟩
    | succ j => exact h4 j a' r' (by simpa using e1) (by simpa using e2)
theorem col_of {i : Nat} : ∀ {rs : List (List V)} {rv : List (List Value)}, Paired Vals rs rv → (∀ r ∈ rs, i < r.length) →
    ∃ vs xs, Vals vs xs ∧ Paired (fun (r : List V) v => r[i]? = some v) rs vs ∧ xs.length = rv.length ∧ ∀ (j : Nat) (r : List Value), rv[j]? = some r → ∃ x, xs[j]? = some x ∧ r[i]? = some x
  | [], _, .nil, _ => ⟨[], [], .nil, .nil, rfl, fun j r h => by simp at h⟩
  | r :: rs, _, .cons h t, hi => by
    obtain ⟨vs, xs, h1, h2, h3, h4⟩ := col_of t fun r hr => hi r (List.mem_cons_of_mem _ hr)
    have hir := hi r List.mem_cons_self
    have e0 : r[i]? = some r[i] := List.getElem?_eq_getElem hir
    obtain ⟨u, hu, ru⟩ := Vals.get h e0
    refine ⟨r[i] :: vs, u :: xs, .cons ru h1, .cons e0 h2, by rw [List.length_cons, List.length_cons, h3], fun j r' e => ?_⟩
    cases j with
    | zero =>
      have e := Option.some.inj e
      subst e
      exact ⟨u, rfl, hu⟩
    | succ j =>
      obtain ⟨x, e1, e2⟩ := h4 j r' (by simpa using e)
      exact ⟨x, by simpa using e1, e2⟩
theorem rows_inj {H : Hp} : ∀ {ls : List Addr} {rs rs' : List (List V)}, RowsH H ls rs → RowsH H ls rs' → rs = rs'
  | [], _, _, .nil, .nil => rfl
  | _ :: _, _, _, .cons a b, .cons c d => by
    have e := a.symm.trans c
    injection e with e
    injection e with e
    rw [e, rows_inj b d]
/-- how the walk stands -/
def ZSt (z TI TO : Addr) (is ls : List Addr) (i : Nat) (h : Heap) : Prop :=
  ∃ (f0 : Value) (f1 : Bool) (ws : List Value), h.get? z = some (zipO f0 f1 TI TO) ∧ (f0 = .none ∨ ∃ T : Addr, f0 = rawInt T) ∧ h.get? TI = some (tupO (is.map Value.ref)) ∧ h.get? TO = some (tupO ws) ∧ ws.length = is.length ∧ ItsAt is ls i h
theorem ZSt.there {z TI TO : Addr} {is ls : List Addr} {i : Nat} {h : Heap} (D : ZAp z TI TO is ls) (st : ZSt z TI TO is ls i h) {c : Addr} (hc : c ∈ z :: TI :: TO :: is) : ∃ o, h.get? c = some o ∧ ∀ v, o.data ≠ .cell v := by
  obtain ⟨f0, f1, ws, hz, _, hTI, hTO, _, hit⟩ := st
  rcases List.mem_cons.mp hc with q | hc
  · rw [q]; exact ⟨_, hz, fun v q => nomatch q⟩
  rcases List.mem_cons.mp hc with q | hc
  · rw [q]; exact ⟨_, hTI, fun v q => nomatch q⟩
  rcases List.mem_cons.mp hc with q | hc
  · rw [q]; exact ⟨_, hTO, fun v q => nomatch q⟩
  obtain ⟨j, hj, e⟩ := List.mem_iff_getElem.mp hc
  have e1 : is[j]? = some c := by rw [List.getElem?_eq_getElem hj, e]
  have hl : j < ls.length := by rw [← D.len]; exact hj
  obtain ⟨o, e2, _, d⟩ := hit j _ _ e1 (List.getElem?_eq_getElem hl)
  exact ⟨o, e2, fun v q => by rw [d] at q; cases q⟩
theorem pyNext_zipN {prog : Program} {w : World} {A : Around} {E : Value → Shared → Prop} {s : Shared} {z TI TO : Addr} {is ls : List Addr} {k : Nat} {rows : List (List Value)} {xs : List Value} {Q : Option Value → Shared → Prop} (D : ZAp z TI TO is ls)
    (st : ZSt z TI TO is ls k s.heap) (hl : RowsAt ls rows s.heap) (hr : rows.length = is.length) (hx : ∀ (j : Nat) (r : List Value), rows[j]? = some r → ∃ x, xs[j]? = some x ∧ r[k]? = some x) (hxl : xs.length = is.length) (hsz : is.length ≤ 100)
    (hQ : ∀ h' : Heap, ZSt z TI TO is ls (k + 1) h' → h'.get? s.heap.objs.size = some (tupO xs) → (∀ c o, c ∉ z :: TI :: TO :: is → s.heap.get? c = some o → h'.get? c = some o) → Q (some (.ref s.heap.objs.size)) { s with heap := h' }) :
    wpAny (model prog w) A (pyNext (.ref z)) Q E s := by
  obtain ⟨f0, f1, ws, hz, hf, hTI, hTO, hws, hit⟩ := st
  have hT : s.TypeIs (.ref z) "zip" := ⟨_, hz, rfl⟩
  have hTz : TI ≠ z := D.TIz
  unfold pyNext
  have both : FreeT f0 s.heap ∨ ∃ (T : Addr) (o : Obj), f0 = rawInt T ∧ s.heap.get? T = some o := by
    rcases hf with e | ⟨T, e⟩
    · exact .inl (.inl e)
    · cases q : s.heap.get? T with
      | none => exact .inl (.inr ⟨T, e, q⟩)
      | some o => exact .inr ⟨T, o, e, q⟩
  have kTI : ∀ h' : Heap, (∀ c o, c ≠ z → c ≠ TO → c ∉ is → s.heap.get? c = some o → h'.get? c = some o) → h'.get? TI = some (tupO (is.map Value.ref)) := fun h' hk =>
    hk TI _ D.TIz D.TIO (fun hm => (D.iz TI hm).2.1 rfl) hTI
  refine wpAny_bind (wpAny_attempt (wpAny_callSpecial?_slot (name := Str.ofString "__next__") hT F.slot_zip_next (wpAny_call_entry F.slot_zip_next hT F.entry_zip_next ?_ (F.args_zip_next_1 _))))
  rcases both with hf | ⟨T, o, e, hTo⟩
  · refine zip_fill D hz hf hTI hTO hws hit hl hr hx hxl hsz fun h' a1 a2 a3 a4 a5 a6 => ⟨_, rfl, wpAny_pure (hQ h' ⟨_, _, xs, a1, .inr ⟨_, rfl⟩, kTI h' a6, a2, hxl, a3⟩ a4 fun c o hc q => ?_)⟩
    have hc' : c ≠ z ∧ c ≠ TI ∧ c ≠ TO ∧ c ∉ is := by simpa using hc
    exact a6 c o hc'.1 hc'.2.2.1 hc'.2.2.2 q
  · subst e
    refine zip_anew D hz hTo hTI hit hl hr hx hxl hsz fun h' a1 a3 a4 a5 a6 => ⟨_, rfl, wpAny_pure (hQ h' ⟨_, _, ws, a1, .inr ⟨_, rfl⟩, kTI h' fun c o c1 _ c3 q => a6 c o c1 c3 q, ?_, hws, a3⟩ a4 fun c o hc q => ?_)⟩
    · exact a6 TO _ D.TOz (fun hm => (D.iz TO hm).2.2 rfl) hTO
    · have hc' : c ≠ z ∧ c ≠ TI ∧ c ≠ TO ∧ c ∉ is := by simpa using hc
      exact a6 c o hc'.1 hc'.2.2.2 q
theorem pyNext_zipN_end {prog : Program} {w : World} {A : Around} {E : Value → Shared → Prop} {s : Shared} {z TI TO : Addr} {is ls : List Addr} {k : Nat} {rows : List (List Value)} {Q : Option Value → Shared → Prop} (hh : A.handled = none) (D : ZAp z TI TO is ls)
    (st : ZSt z TI TO is ls k s.heap) (hl : RowsAt ls rows s.heap) (hr : rows.length = is.length) (hx : ∀ r, rows[0]? = some r → r[k]? = none)
    (hQ : ∀ h' : Heap, (∀ c o, c ∉ z :: TI :: TO :: is → s.heap.get? c = some o → h'.get? c = some o) → Q none { s with heap := h' }) :
    wpAny (model prog w) A (pyNext (.ref z)) Q E s := by
  obtain ⟨f0, f1, ws, hz, hf, hTI, hTO, hws, hit⟩ := st
  have hT : s.TypeIs (.ref z) "zip" := ⟨_, hz, rfl⟩
  unfold pyNext
  refine wpAny_bind (wpAny_attempt (wpAny_callSpecial?_slot (name := Str.ofString "__next__") hT F.slot_zip_next (wpAny_call_entry F.slot_zip_next hT F.entry_zip_next (zip_end hh D hz hf hTI hit hl hr hx fun h' e hk he => ?_) (F.args_zip_next_1 _))))
  obtain ⟨o, ho, hc⟩ := he
  refine wpAny_bind (wpAny_isInstance (T := "StopIteration") (b := true) ⟨o, ho, hc⟩ isSubtype_stop ?_)
  refine wpAny_pure (hQ _ fun c o hc q => ?_)
  have hc' : c ≠ z ∧ c ≠ TI ∧ c ≠ TO ∧ c ∉ is := by simpa using hc
  exact hk c o hc'.1 hc'.2.2.2 q
theorem turn_zipN {P : Program} {w : World} {K : PySem.W.Frag} {x : Str} {p : Pos} {z TI TO : Addr} {is ls : List Addr} (D : ZAp z TI TO is ls) (hsz : is.length ≤ 100) :
    Turn P w K (.Name x p) (ItzN ls) (z :: TI :: TO :: is) z (ZSt z TI TO is ls) where
  mem := List.mem_cons_self
  obj := fun i h st c hc => st.there D hc
  keep := fun i h h' st k => by
    obtain ⟨f0, f1, ws, hz, hf, hTI, hTO, hws, hit⟩ := st
    refine ⟨f0, f1, ws, k z (by simp) _ hz, hf, k TI (by simp) _ hTI, k TO (by simp) _ hTO, hws, fun j i l e1 e2 => (hit j i l e1 e2).at fun o q => k i ?_ o q⟩
    have := List.mem_of_getElem? e1
    simp [this]
  item := by
    intro X hP hw hK hc i pins s σ H E I hf st hg
    subst hP hw hK
    obtain ⟨rs, hrs, hlen⟩ := hg
    obtain ⟨rv, r1, r2, r3⟩ := rowsV I hrs
    obtain ⟨vs, xs, c1, c2, c3, c4⟩ := col_of r1 hlen
    have hri : rv.length = is.length := by rw [← r2, D.len]
    have hxl : xs.length = is.length := by rw [c3, hri]
    have hvl : vs.length = xs.length := Vals.length c1
    refine pyNext_zipN D st r3 hri c4 hxl hsz fun h' st' hT hk => ⟨_, rfl, ?_⟩
    have go : ∀ {Q : Unit → Shared → Prop} {s' : Shared} {A : Around}, Q () s' → wpAny (model X.prog X.w) A (letOwnedTupleGo (.Name x p) (.ref z) (.ref s.heap.objs.size)) Q E s' := fun hQ => by
      unfold letOwnedTupleGo
      exact wpAny_pure hQ
    refine go ?_
    have new : ObjOk X.prog X.w (upd H s.heap.objs.size (.tup vs)) h' s.heap.objs.size (.tup vs) :=
      ⟨by rw [hvl, hxl, sizeLine_eq]; omega, xs, c1, ⟨_, hT, rfl, _, rfl⟩⟩
    have I1 : Inv X pins σ (upd H s.heap.objs.size (.tup vs)) { s with heap := h' } :=
      I.turnedNew (t' := s.toks) (ch := z :: TI :: TO :: is) (fun c o hb q => hk c o hb q) hf (Nat.le_refl _) new
    refine ⟨.ref s.heap.objs.size, _, I1, rfl, ⟨_, vs, rfl, I.hok.fresh (Nat.le_refl _), rfl, fun rs' h' => ?_⟩, st', fun c hcm => ?_⟩
    · rw [← rows_inj hrs h']
      exact c2
    · obtain ⟨o, ho, _⟩ := st.there D hcm
      rw [upd_ne (Nat.ne_of_lt (Heap.lt_size ho))]
      exact (hf c hcm).1
  done := by
    intro X hP hw hK hc i pins s σ H E I hf st hg
    subst hP hw hK
    obtain ⟨rs, hrs, hlen⟩ := hg
    obtain ⟨rv, r1, r2, r3⟩ := rowsV I hrs
    have hri : rv.length = is.length := by rw [← r2, D.len]
    refine pyNext_zipN_end (I.ok.hd hc) D st r3 hri (fun r e => ?_) fun h' hk => ⟨rfl, I.turnedL (t' := s.toks) (ch := z :: TI :: TO :: is) hk hf⟩
    cases r1 with
    | nil => cases e
    | cons a b =>
      have e : _ = r := Option.some.inj e
      subst e
      have := hlen _ List.mem_cons_self
      rw [a.length] at this
      exact List.getElem?_eq_none this
  self := fun A i s Q E st h => by
    obtain ⟨f0, f1, ws, hz, _⟩ := st
    have hT : s.TypeIs (.ref z) "zip" := ⟨_, hz, rfl⟩
    refine wpAny_pyIter_slot hT F.slot_zip_iter (wpAny_call_entry F.slot_zip_iter hT F.entry_zip_iter ?_ (F.args_zip_iter_1 _))
    exact wpAny_pure (Q := fun f s' => _) ⟨_, rfl, "zip", _, hT, F.slot_zip_next.lookup, h⟩
/-! ### the call -/
theorem typeCall_zip {us : List Value} (h1 : 0 < us.length) (h8 : us.length ≤ 8) : checkTypeCall "zip" ⟨us, []⟩ = pure () := by
  match us, h1, h8 with
  | [a], _, _ => kernel_rfl
  | [a, b], _, _ => kernel_rfl
  | [a, b, c], _, _ => kernel_rfl
  | [a, b, c, d], _, _ => kernel_rfl
  | [a, b, c, d, e], _, _ => kernel_rfl
  | [a, b, c, d, e, f], _, _ => kernel_rfl
  | [a, b, c, d, e, f, g], _, _ => kernel_rfl
  | [a, b, c, d, e, f, g, i], _, _ => kernel_rfl
theorem newCall_zip {us : List Value} (h1 : 0 < us.length) (h8 : us.length ≤ 8) : checkBuiltinCall "zip.__new__" ⟨.type "zip" :: us, []⟩ = pure () := by
  match us, h1, h8 with
  | [a], _, _ => kernel_rfl
  | [a, b], _, _ => kernel_rfl
  | [a, b, c], _, _ => kernel_rfl
  | [a, b, c, d], _, _ => kernel_rfl
  | [a, b, c, d, e], _, _ => kernel_rfl
  | [a, b, c, d, e, f], _, _ => kernel_rfl
  | [a, b, c, d, e, f, g], _, _ => kernel_rfl
  | [a, b, c, d, e, f, g, i], _, _ => kernel_rfl
theorem initOk_zip (obj : Value) {us : List Value} (h1 : 0 < us.length) (h8 : us.length ≤ 8) : argsOk "object.__init__" ⟨obj :: us, []⟩ := by
  unfold argsOk
  rw [signature?_of (id := "object.__init__") (n := ['_', '_', 't', 'i', 'n', 'i', '_', '_']) (o := ['t', 'c', 'e', 'j', 'b', 'o']) (by kernel_rfl) F.owner_object]
  match us, h1, h8 with
  | [a], _, _ => kernel_rfl
  | [a, b], _, _ => kernel_rfl
  | [a, b, c], _, _ => kernel_rfl
  | [a, b, c, d], _, _ => kernel_rfl
  | [a, b, c, d, e], _, _ => kernel_rfl
  | [a, b, c, d, e, f], _, _ => kernel_rfl
  | [a, b, c, d, e, f, g], _, _ => kernel_rfl
  | [a, b, c, d, e, f, g, i], _, _ => kernel_rfl
end
end G

namespace G
open PySem PySem.Spec PyProof.Rows L2
section
variable {X : Cx} {ρ : List SD} {M : Mem} {Q : Kn} {pos p sp : Pos} {e : Expr}
theorem meets_zipN {ls : List Addr} {rows : List (List Value)} (hlr : ls.length = rows.length) (hsz : ls.length ≤ 100) :
    Meets (Builtin.«zip.__new__» ⟨.type "zip" :: ls.map Value.ref, []⟩) (fun _ R s => RowsAt ls rows s.heap ∧ ∀ h' : Heap, ZSt (s.heap.objs.size + ls.length + 2) (s.heap.objs.size + ls.length) (s.heap.objs.size + ls.length + 1) (zIs s.heap.objs.size ls.length) ls 0 h' →
      h'.objs.size = s.heap.objs.size + ls.length + 3 → (∀ c o, s.heap.get? c = some o → h'.get? c = some o) → R (.ok (.ret (.ref (s.heap.objs.size + ls.length + 2)))) { s with heap := h' }) :=
  .of_wp fun prog w A R s h => zip_made hlr h.1 hsz fun h' a1 a2 a3 a4 a5 a6 => h.2 h' ⟨_, _, _, a1, .inl rfl, a2, a3, by simp, a4⟩ a5 a6
def iZipS (te : TE) : TI := fun σ H R => te σ H fun y H1 => ∃ (a : Addr) (ls : List Addr) (rs : List (List V)), y = .ref a ∧ H1 a = some (.lst (ls.map V.ref)) ∧ RowsH H1 ls rs ∧ 0 < ls.length ∧ ls.length ≤ 8 ∧ R (ItzN ls) H1
theorem looks_type {M : Model} (h : Heap) (T : String) : ∃ k, (k = Keeper.frame ∨ k = Keeper.machine ∨ k = Keeper.boundFrame) ∧ PySem.W.Looks M h (keeperOf (.type T)) k :=
  ⟨.machine, .inr (.inl rfl), PySem.W.Looks.of_pure rfl⟩
theorem pi_zipS {x : Str} {xp : Pos} {te : TE} (hg : Gl X "zip") (hm : X.mg "zip" = none) (he : PE X e te) (hs : starEach [.Starred e sp] X.env = [(true, eval e X.env)] := by rfl) :
    PI X (.Name x xp) (.Call (.Name "zip" p) [.Starred e sp] [] pos) (iZipS te) := by
  refine ⟨fun pins s σ H R I h => ?_⟩
  refine Call_ (ld_blt I hg hm PyProof.Rows.boot_zip ?_)
  rw [hs]
  refine PySem.W.ks_call (P := fun _ => True) rfl (fun h _ => looks_type h "zip") (PySem.W.ks_lone (thn (he.run pins s σ H _ I h) fun v s1 hh => ?_))
  obtain ⟨y, H1, I1, ry, a, ls, rs, rfl, ha, hrs, hp, h8, q⟩ := hh
  have ry : v = Value.ref a := ry
  subst ry
  refine StX.star_lst I1 (.inl (.of ha)) fun us s2 I2 rv => ⟨trivial, ?_⟩
  have eu := refs_of rv
  subst eu
  obtain ⟨rvs, r1, r2, r3⟩ := rowsV I2 hrs
  have hl1 : 0 < (ls.map Value.ref).length := by rw [List.length_map]; exact hp
  have hl8 : (ls.map Value.ref).length ≤ 8 := by rw [List.length_map]; exact h8
  have lt : ∀ l ∈ ls, l < s2.heap.objs.size := fun l hl => by
    obtain ⟨j, hj, ej⟩ := List.mem_iff_getElem.mp hl
    have hjr : j < rvs.length := by rw [← r2]; exact hj
    obtain ⟨n, g⟩ := r3 j _ _ (List.getElem?_eq_getElem hj) (List.getElem?_eq_getElem hjr)
    rw [ej] at g
    exact Heap.lt_size g
  have D : ZAp (s2.heap.objs.size + ls.length + 2) (s2.heap.objs.size + ls.length) (s2.heap.objs.size + ls.length + 1) (zIs s2.heap.objs.size ls.length) ls := zip_apart hp lt
  have nlen : (zIs s2.heap.objs.size ls.length).length = ls.length := by simp
  refine callType_new F.called_zip (by decide) (typeCall_zip hl1 hl8) (newCall_zip hl1 hl8) (fun obj => initOk_zip obj hl1 hl8) F.entry_zip_new (meets_zipN r2 (Nat.le_trans h8 (by decide))) ⟨r3, fun h' st hsz hk => ?_⟩
  have hz : ∃ o, h'.get? (s2.heap.objs.size + ls.length + 2) = some o ∧ o.cls = .type "zip" := by
    obtain ⟨f0, f1, ws, hz, _⟩ := st
    exact ⟨_, hz, rfl⟩
  refine ⟨hz, (turn_zipN (P := X.prog) (w := X.w) (K := X.K) (x := x) (p := xp) D (by rw [nlen]; exact Nat.le_trans h8 (by decide))).self _ 0 _ _ _ st ?_⟩
  have I3 : Inv X pins σ H1 { s2 with heap := h' } := I2.kept (t' := s2.toks) hk
  refine ⟨_, _, _, _, H1, rfl, I3, turn_zipN D (by rw [nlen]; exact Nat.le_trans h8 (by decide)), st, fun c hc => ?_, q⟩
  have hle : s2.heap.objs.size ≤ c := by
    rcases List.mem_cons.mp hc with q | hc
    · rw [q]; exact Nat.le_add_right_of_le (Nat.le_add_right _ _)
    rcases List.mem_cons.mp hc with q | hc
    · rw [q]; exact Nat.le_add_right _ _
    rcases List.mem_cons.mp hc with q | hc
    · rw [q]; exact Nat.le_add_right_of_le (Nat.le_add_right _ _)
    obtain ⟨m, hm, e⟩ := List.mem_map.mp hc
    rw [← e]
    exact Nat.le_add_right _ _
  exact I2.fpOk hle (I2.hok.fresh hle)
/-! ### in data -/
def col (rows : List (List PyData)) (i : Nat) : List PyData := rows.map fun r => r[i]?.getD .none
theorem lists_of {F : Hp} : ∀ {vs : List V} {rows : List (List PyData)}, DtA F vs (rows.map PyData.list) → ∃ (ls : List Addr) (rs : List (List V)), vs = ls.map V.ref ∧ RowsH F ls rs ∧ Paired (DtA F) rs rows ∧ ls.length = rows.length
  | _, [], .nil => ⟨[], [], rfl, .nil, .nil, rfl⟩
  | _, r :: rows, .cons h t => by
    obtain ⟨ls, rs, e1, e2, e3, e4⟩ := lists_of t
    cases h with
    | lst h1 h2 =>
      subst e1
      exact ⟨_ :: ls, _ :: rs, rfl, .cons h1 e2, .cons h2 e3, by rw [List.length_cons, List.length_cons, e4]⟩
theorem rowsH_same {F H : Hp} (e : Same F H) {ls : List Addr} {rs : List (List V)} (h : RowsH F ls rs) : RowsH H ls rs := Paired.mapP h fun _ _ q => e _ _ q
theorem col_dt {F : Hp} {i : Nat} : ∀ {rs : List (List V)} {rows : List (List PyData)} {vs : List V}, Paired (DtA F) rs rows → Paired (fun (r : List V) v => r[i]? = some v) rs vs → (∀ r ∈ rows, i < r.length) → DtA F vs (col rows i)
  | [], [], [], .nil, .nil, _ => .nil
  | r :: rs, d :: rows, v :: vs, .cons a b, .cons c e, h => by
    have hi := h d List.mem_cons_self
    have e0 : d[i]? = some d[i] := List.getElem?_eq_getElem hi
    obtain ⟨v', e1, e2⟩ := a.get e0
    have ev : v' = v := Option.some.inj (e1.symm.trans c)
    subst ev
    show DtA F (v' :: vs) ((d[i]?.getD .none) :: col rows i)
    rw [e0]
    exact .cons e2 (col_dt b e fun r hr => h r (List.mem_cons_of_mem _ hr))
theorem rows_len {F : Hp} {n : Nat} : ∀ {rs : List (List V)} {rows : List (List PyData)}, Paired (DtA F) rs rows → (∀ r ∈ rows, r.length = n) → ∀ r ∈ rs, r.length = n
  | _, _, .cons a b, h, r, hr => by
    rcases List.mem_cons.mp hr with q | q
    · rw [q, a.length]
      exact h _ List.mem_cons_self
    · exact rows_len b (fun r hr => h r (List.mem_cons_of_mem _ hr)) r q
theorem git_zipS {F : Hp} {ls : List Addr} {rs : List (List V)} {rows : List (List PyData)} {n : Nat} (h : RowsH F ls rs) (hd : Paired (DtA F) rs rows) (hn : ∀ r ∈ rows, r.length = n) : GIt F (ItzN ls) n (fun i => .pu (.tuple (col rows i))) where
  go := fun i F' H s1 s2 hi => ⟨rs, rowsH_same (s1.trans s2) h, fun r hr => by rw [rows_len hd hn r hr]; exact hi⟩
  stop := fun F' H s1 s2 => ⟨rs, rowsH_same (s1.trans s2) h, fun r hr => by rw [rows_len hd hn r hr]; exact Nat.le_refl _⟩
  yld := fun i B F' H M x H' hi s1 W y => by
    obtain ⟨T, vs, rfl, hT, rfl, hp⟩ := y
    have p := hp rs (rowsH_same (s1.trans W.fh) h)
    obtain ⟨W2, s2⟩ := W.froz (o := .tup vs) hT
    refine ⟨_, s2, W2, ?_⟩
    have d := col_dt hd p fun r hr => by rw [hn r hr]; exact hi
    exact Dt.tup upd_same (DtA.mono (s1.trans s2) d)
/-- for x in zip(*table) -/
theorem igzips {x : Str} {xp : Pos} {QI : Nat → (Nat → SD) → Mem → Prop} (hm : X.mg "zip" = none)
    (h : GE X ρ M e fun y M1 => ∃ (rows : List (List PyData)) (n : Nat), y = .pu (.list (rows.map .list)) ∧ 0 < rows.length ∧ rows.length ≤ 8 ∧ (∀ r ∈ rows, r.length = n) ∧ QI n (fun i => .pu (.tuple (col rows i))) M1)
    (hg : Gl X "zip" := by rfl) (hs : starEach [.Starred e sp] X.env = [(true, eval e X.env)] := by rfl) : GI X ρ M (.Name x xp) (.Call (.Name "zip" p) [.Starred e sp] [] pos) QI := .mk fun B F H σ R' W S s => by
  refine wI_of (pi_zipS hg hm pE hs) (h B F H σ _ W S fun y M1 v F1 H1 hx W1 s1 vx => ?_)
  obtain ⟨rows, n, rfl, hp, h8, hn, q⟩ := hx
  have vx : Dt F1 v (.list (rows.map .list)) := vx
  cases vx with
  | lst h1 h2 =>
    obtain ⟨ls, rs, e1, e2, e3, e4⟩ := lists_of h2
    subst e1
    exact ⟨_, ls, rs, rfl, W1.fh _ _ h1, rowsH_same W1.fh e2, by rw [e4]; exact hp, by rw [e4]; exact h8, s _ _ M1 _ F1 H1 q W1 s1 (git_zipS e2 e3 hn)⟩
end
end G

namespace G
open PySem PySem.Spec PyProof.Rows L2
/-! ### set(list of ints), sorted(set) of any number -/
abbrev nuS (w : World) : Obj := { cls := .type "set", dict := none, data := .set #[] 0 (.fresh 0 0 (!w.params.followText "set-order")) }
section
variable {P : Program} {w : World} {A : Around} {E : Value → Shared → Prop} {s : Shared}
/-- what a set of ints knows, behind l's items -/
abbrev SetGot (w : World) (h0 : Heap) (a : Addr) (ns : List Int) (h' : Heap) : Prop := (∃ c, c ≤ ns.length ∧ SetR w h' a (fun j => decide (j ∈ ns)) c) ∧ ∀ b o, h0.get? b = some o → h'.get? b = some o
theorem setInit_list {l : Addr} {its : List Value} {ns : List Int} {h0 : Heap} {R : Result → Shared → Prop} (hh : A.handled = none) (hl : LAt h0 l its) (hi : IntsAre its ns) (hb : ns.length + 1 < scanBound)
    (hs : s.heap = h0.push (nuS w)) (h : ∀ (h' : Heap) (tk : Nat), SetGot w h0 h0.objs.size ns h' → R (.ok (.ret .none)) { s with heap := h', toks := tk }) :
    wpAny (model P w) A.in1 (Builtin.«set.__init__» ⟨[.ref h0.objs.size, .ref l], []⟩) (fun f s' => match f with
      | .done f => R (.ok f) s'
      | .again c' => c'.quiet = true ∧ codeAny (model P w) A c' R s') (fun e s' => R (.error e) s') s := by
  obtain ⟨hp, g, d, tk, os⟩ := s
  have hs : hp = h0.push (nuS w) := hs
  subst hs
  have lt : l < h0.objs.size := let ⟨_, e⟩ := hl; Heap.lt_size e
  have hl' : LAt (h0.push (nuS w)) l its := hl.keep fun o q => Heap.get?_push_of_some _ q
  obtain ⟨n, e⟩ := id hl'
  have hS : (h0.push (nuS w)).get? h0.objs.size = some (nuS w) := Heap.get?_push_size _ rfl
  have f1 := F.sub_list_set
  have f2 := F.sub_list_frozenset
  have f3 : (Value.type "list" == Value.type "dict") = false := by decide
  have len : its.length = ns.length := hi.length
  unfold Builtin.«set.__init__» noKeywords Builtin.Frozenset.updateFrom
  generalize hPI : pyIter = PI
  wp_walk
  subst hPI
  refine wpAny_pyIter_list hl'.isList (wpAny_bind (wpAny_runValue ?_))
  have zz : (h0.push (nuS w)).objs.size = h0.objs.size + 1 := Heap.size_push ..
  have nI : l ≠ (h0.push (nuS w)).objs.size := by
    rw [zz]
    exact Nat.ne_of_lt (Nat.lt_succ_of_lt lt)
  have nS : h0.objs.size ∉ [(h0.push (nuS w)).objs.size, l] := by
    rw [zz]
    intro hm
    rcases List.mem_cons.mp hm with q | q
    · exact Nat.ne_of_lt (Nat.lt_succ_self _) q
    · rw [List.mem_singleton] at q
      exact Nat.ne_of_gt lt q
  have val : ∀ (i : Nat) (v : Value), its.toArray[i]? = some v → ∃ k t, ns[i]? = some k ∧ v = .int k t := by
    intro i v hv
    have hv : its[i]? = some v := by simpa using hv
    have hil : i < ns.length := by
      rw [← len]
      exact (List.getElem?_eq_some_iff.mp hv).1
    obtain ⟨t, e⟩ := IntsAre.int_at hi i v hv
    refine ⟨ns[i], t, List.getElem?_eq_getElem hil, ?_⟩
    rw [e, List.getD_eq_getElem?_getD, List.getElem?_eq_getElem hil]
    rfl
  refine set_update_ints ((Walks.list (by simp [hh]) _ l nI its.toArray).toS) h0.objs.size nS ns (by simpa using len) hb val its.toArray.size 0 _ (by omega) (Nat.zero_le _) ⟨⟨_, Heap.get?_push_size _ rfl, rfl, rfl⟩, hl'.isList.push _⟩ ⟨0, Nat.le_refl 0, setR_new_at (Heap.get?_push_of_some _ hS)⟩ ?_
  rintro ⟨h', g2, d2, tk2, os2⟩ c hm hc hS'
  obtain rfl : g2 = g := hm.gens
  obtain rfl : d2 = d := hm.drawn
  obtain rfl : os2 = os := hm.os
  refine wpAny_pure (wpAny_pure (h h' tk2 ⟨⟨c, by simpa [len] using hc, hS'⟩, fun b o q => ?_⟩))
  have hb0 : b < h0.objs.size := Heap.lt_size q
  refine hm.heap b o (fun hm => ?_) (Heap.get?_push_of_some _ (Heap.get?_push_of_some _ q))
  rcases List.mem_cons.mp hm with z | z
  · exact Nat.ne_of_lt hb0 z
  · rw [List.mem_singleton, zz] at z
    exact Nat.ne_of_lt (Nat.lt_succ_of_lt hb0) z
theorem call_setL {l : Addr} {its : List Value} {ns : List Int} {Q : Value → Shared → Prop} (hh : A.handled = none) (hl : LAt s.heap l its) (hi : IntsAre its ns) (hb : ns.length + 1 < scanBound)
    (h : ∀ (h' : Heap) (tk : Nat), SetGot w s.heap s.heap.objs.size ns h' → Q (.ref s.heap.objs.size) { s with heap := h', toks := tk }) : wpAny (model P w) A (call (.type "set") [.ref l]) Q E s := by
  obtain ⟨c, tl, hmro⟩ := F.called_set.mro
  have ⟨h1, h2, _, hmade, _, hsub, _⟩ := F.called_set
  have hct := F.typeCall_set_1 (.ref l)
  refine wpAny_call (codeAny_of_tree (show wpAny _ _ (callAny (.type "set") _) _ _ _ from ?_))
  refine wpAny_pure ⟨Code.quiet_builtin _ (by decide +kernel), codeAny_builtin F.entry_type_call (by
    rw [Around.under_plain (weight_type_call_type "set" [.ref l] []) rfl]
    repeat (any_goals (first | assumption | wp_step))
    refine codeAny_mono (code_set_led1 (.ref l) (E := E) (Q₁ := fun obj t => obj = .ref s.heap.objs.size ∧ t = { s with heap := s.heap.push (nuS w) }) ⟨rfl, rfl⟩) fun r t hr => ?_
    match r, hr with
    | .error e, hr => exact hr
    | .ok .next, hr => exact False.elim hr
    | .ok .brk, hr => exact False.elim hr
    | .ok .cont, hr => exact False.elim hr
    | .ok (.ret obj), hr =>
      obtain ⟨rfl, rfl⟩ := hr
      have hT : Shared.TypeIs { s with heap := s.heap.push (nuS w) } (.ref s.heap.objs.size) "set" := ⟨_, Heap.get?_push_size _ rfl, rfl⟩
      have ⟨_, _, _, _, _, _, hin⟩ := F.called_set
      have hli := hin.lookup
      have hbi := hin.bind (.ref s.heap.objs.size)
      repeat (any_goals (first | assumption | wp_step))
      refine codeAny_mono (codeAny_call_builtin (R := wants (fun r t => r = .none ∧ ∃ h' tk, t = { s with heap := h', toks := tk } ∧ SetGot w s.heap s.heap.objs.size ns h') E) hin.plain F.entry_set_init
        (check_set_init_1 hT (setInit_list (h0 := s.heap) hh hl hi hb rfl fun h' tk g => ⟨rfl, h', tk, rfl, g⟩))) fun r₂ t hr₂ => ?_
      match r₂, hr₂ with
      | .error e, hr => exact hr
      | .ok .next, hr => exact False.elim hr
      | .ok .brk, hr => exact False.elim hr
      | .ok .cont, hr => exact False.elim hr
      | .ok (.ret _), hr =>
        obtain ⟨rfl, h', tk, rfl, g⟩ := hr
        repeat (any_goals (first | assumption | wp_step))
        exact h h' tk g)⟩
end
end G

namespace G
open PySem PySem.Spec PyProof.Rows L2
section
variable {P : Program} {w : World} {A : Around} {E : Value → Shared → Prop} {s : Shared} {a : Addr}
theorem sorted_setB {S : Int → Bool} {n : Nat} {Q : Value → Shared → Prop} (R : SetR w s.heap a S n) (hh : A.handled = none) (hz : n ≤ 4000)
    (hQ : ∀ (t : Shared) (p : Addr) (out : List Value) (c : Nat) (ns : List Int), (∀ b o, s.heap.get? b = some o → t.heap.get? b = some o) → t.gens = s.gens → t.os = s.os → s.heap.objs.size ≤ p →
      t.heap.get? p = some (seqObj "list" out.toArray c) → IntsAre out ns → ns.Pairwise (· < ·) → (∀ k, k ∈ ns ↔ S k = true) → ns.length = n → Q (.ref p) t) :
    wpAny (model P w) A (call (.builtin "sorted") [.ref a]) Q E s := by
  obtain ⟨o, es, ep, t, ho, hex, hd, g, nd, hm, hb, hf, hn, hr, hl⟩ := R
  refine Calls.call_function_entry kind_sorted plain_sorted entry_sorted (args_sorted1 _) (show wpAny _ _ (checkCount "sorted" 1 1 _ >>= _) _ _ _ from wpAny_bind (wpAny_pure ?_))
  refine wpAny_bind (collect_set (A := A.in1) hh ⟨o, ho, hex.1, hd⟩ hf hb hr hl fun s1 vs k1 hz1 g1 o1 pm => ?_)
  have vl : vs.length = n := by
    have q := pm.length_eq
    rw [List.length_map, Array.length_toList] at q
    exact q.trans hn
  have hI : IntsAre vs (vs.map SrtO.iv) := SrtO.ints_iv fun v hv => by
    obtain ⟨e, he, q⟩ := List.mem_map.mp (pm.mem_iff.mp hv)
    obtain ⟨k, tk, h1, _⟩ := g e he
    subst q
    exact ⟨k, tk, h1⟩
  have pk : (vs.map SrtO.iv).Perm (es.toList.map keyOf) := by
    have q := pm.map SrtO.iv
    rw [List.map_map] at q
    exact q
  have vz : vs.length ≤ sizeLine := by
    rw [vl, sizeLine_eq]
    omega
  refine wpAny_bind (wpAny_newList ?_ vz)
  have hoL : (s1.heap.push (seqObj "list" vs.toArray 0)).get? s1.heap.objs.size = some (seqObj "list" vs.toArray 0) := Heap.get?_push_size _ rfl
  refine wpAny_bind (wpAny_holding (wpAny_call_entry slot_list_sort ⟨_, hoL, rfl⟩ entry_list_sort (SrtO.list_sort_ord SrtO.swo_int hoL vz (fun h2 => SrtO.ints_sortable hI h2) fun out b1 b2 => ⟨_, rfl, ?_⟩) (args_list_sort _)))
  obtain ⟨i1, i2, i3⟩ := SrtO.ints_out hI b1 b2
  obtain ⟨c, hc⟩ := sortedHeap_at (vs := vs) (out := out.toArray) hoL
  have pn := i2.trans pk
  refine wpAny_pure ⟨_, rfl, hQ _ s1.heap.objs.size out c (out.map SrtO.iv) (fun b u e => ?_) g1 o1 hz1 hc i1 (lt_of_le_nodup _ i3 (pn.nodup_iff.mpr nd)) (fun k => by rw [pn.mem_iff, ← hm k]) ?_⟩
  · have lt := Heap.lt_size (k1 b u e)
    have q := Heap.get?_push_of_some (seqObj "list" vs.toArray 0) (k1 b u e)
    show (sortedHeap (s1.heap.push (seqObj "list" vs.toArray 0)) s1.heap.objs.size vs out.toArray).get? b = some u
    rw [sortedHeap_old (Nat.ne_of_lt lt) (by rw [size_push']; exact Nat.lt_succ_of_lt lt)]
    exact q
  · have q := pn.length_eq
    rw [List.length_map (as := es.toList), Array.length_toList] at q
    exact q.trans hn
end
section
variable {X : Cx} {ρ : List SD} {M : Mem} {Q : Kn} {pos : Pos} {e : Expr}
/-- set(l) of a changing or frozen list of ints: the set's object is followed -/
def rSetI (w : World) : List V → Hp → VK → Prop := fun vs H Q => ∃ (l : Addr) (ns : List Int), vs = [.ref l] ∧ H l = some (.lst (ns.map V.int)) ∧ ns.length ≤ 4000 ∧ ∀ p n, H p = none → n ≤ ns.length → Q (.ref p) (upd H p (SetO w p (fun j => decide (j ∈ ns)) n))
theorem cr_setI (hc : X.calm = true) : CallR X (.type "set") (rSetI X.w) := by
  intro pins s σ H vs us Q I r h
  obtain ⟨l, ns, rfl, hl, hz, q⟩ := h
  rw [Vals.ref1 r]
  obtain ⟨z, its, n, g1, g2, g3⟩ := I.lstM hl
  refine call_setL (I.ok.hd hc) ⟨n, g3⟩ g1.ints (by unfold scanBound; omega) fun h' tk ⟨⟨c, hc, hS⟩, hk⟩ => ?_
  have hn : H s.heap.objs.size = none := I.hok.fresh (Nat.le_refl _)
  exact ⟨.ref s.heap.objs.size, _, I.laid (t' := tk) hk (Nat.le_refl _) (setO_new hS), rfl, q _ c hn hc⟩
def rSortedB (w : World) : List V → Hp → VK → Prop := fun vs H Q => ∃ (a : Addr) (S : Int → Bool) (n : Nat), vs = [V.ref a] ∧ H a = some (SetO w a S n) ∧ n ≤ 4000 ∧
  ∀ (ns : List Int) (p : Addr), ns.Pairwise (· < ·) → (∀ k : Int, k ∈ ns ↔ S k = true) → ns.length = n → H p = none → Q (.ref p) (upd H p (.lst (ns.map V.int)))
theorem cr_sortedB (hc : X.calm = true) : CallR X (.builtin "sorted") (rSortedB X.w) := by
  intro pins s σ H vs us Q I r h
  obtain ⟨a, S, n, rfl, ha, hz, q⟩ := h
  rw [Vals.ref1 r]
  refine sorted_setB (setO_get I ha) (I.ok.hd hc) hz fun t p out c ns k g o hp hg hi hs hm hl => ?_
  have hlen : (ns.map V.int).length ≤ sizeLine := by
    rw [List.length_map, hl, sizeLine_eq]
    omega
  have hn : H p = none := I.hok.fresh hp
  obtain ⟨h', g', d', t', o'⟩ := t
  obtain rfl : g' = s.gens := g
  obtain rfl : o' = s.os := o
  have J : Inv X pins σ (upd H p (.lst (ns.map V.int))) { s with heap := h', gens := s.gens, drawn := d', toks := t' } :=
    I.call (ch := []) (Un.laid k hp hn) (I.hok.laid k hp ⟨hlen, out, c, vals_of_ints hi, hg⟩) I.bare (fun _ z => nomatch z)
  exact ⟨.ref p, _, J, rfl, q ns p hs hm hl hn⟩
/-- sorted(set(e)): e a list of ints -/
theorem gsortset {p p2 cpos : Pos} (hc : X.calm = true) (hm : X.mg "sorted" = none) (hm2 : X.mg "set" = none)
    (h : GE X ρ M e fun x M1 => ∃ ns, LV M1 x (pints ns) ∧ ns.length ≤ 4000 ∧ ∀ l ns', ns'.Pairwise (· < ·) → (∀ k, k ∈ ns' ↔ k ∈ ns) → ns'.length ≤ ns.length → Q (.rf (.ref l)) ((l, .lst (pints ns')) :: M1))
    (hg : Gl X "sorted" := by rfl) (hg2 : Gl X "set" := by rfl) (he : starEach [e] X.env = [(false, eval e X.env)] := by rfl)
    (he2 : starEach [.Call (.Name "set" p2) [e] [] cpos] X.env = [(false, eval (.Call (.Name "set" p2) [e] [] cpos) X.env)] := by rfl) : GE X ρ M (.Call (.Name "sorted" p) [.Call (.Name "set" p2) [e] [] cpos] [] pos) Q := .mk fun B F H σ Q' W S s => by
  refine wE_of (pe_callB (cr_sortedB hc) hg hm PyProof.Rows.boot_sorted (pa_cons (pe_callTy (cr_setI hc) hg2 hm2 boot_set (pa_cons pE pa_nil he) (by decide) (by decide) he) pa_nil he2) (by decide) (by decide) he2) ?_
  refine h B F H σ _ W S fun x M1 v F1 H1 hx W1 s1 vx => ?_
  obtain ⟨ns, lv, hz, q⟩ := hx
  obtain ⟨p, vs, rfl, hp, pr⟩ := lv.at W1 vx
  have ev := ints_of pr
  subst ev
  refine ⟨p, ns, rfl, hp, hz, fun d n hd hn => ?_⟩
  refine ⟨d, _, n, rfl, upd_same, Nat.le_trans hn hz, fun ns' l h1 h2 h3 hl => ?_⟩
  have W2 := W1.other (o := SetO X.w d (fun j => decide (j ∈ ns)) n) hd
  exact s _ _ _ F1 _ (q l ns' h1 (fun k => by rw [h2 k, decide_eq_true_iff]) (by omega)) (W2.newl hl (of_ints ns')) s1 rfl
end
end G

namespace G
open PySem PySem.Spec PyProof.Rows L2
section
variable {X : Cx} {ρ : List SD} {M : Mem} {Q : Kn} {pos : Pos} {a b e : Expr}
/-! ### list(range(n)) -/
theorem rgV_ints (n : Nat) : rgV 0 n = ((List.range n).map fun i : Nat => (i : Int)).map V.int := by
  unfold rgV
  rw [show ((n : Int) - 0).toNat = n by omega, List.map_map]
  refine List.map_congr_left fun i _ => ?_
  show V.int (0 + (i : Int)) = V.int (i : Int)
  rw [Int.zero_add]
theorem glistr {p p2 cpos : Pos} (hc : X.calm = true) (hm : X.mg "list" = none) (hm2 : X.mg "range" = none)
    (h : GE X ρ M e fun x M1 => ∃ n : Nat, x = .pu (.int n) ∧ n ≤ 10000 ∧ ∀ l, Q (.rf (.ref l)) ((l, .lst (pints ((List.range n).map fun i : Nat => (i : Int)))) :: M1))
    (hg : Gl X "list" := by rfl) (hg2 : Gl X "range" := by rfl) (he : starEach [e] X.env = [(false, eval e X.env)] := by rfl)
    (he2 : starEach [.Call (.Name "range" p2) [e] [] cpos] X.env = [(false, eval (.Call (.Name "range" p2) [e] [] cpos) X.env)] := by rfl) : GE X ρ M (.Call (.Name "list" p) [.Call (.Name "range" p2) [e] [] cpos] [] pos) Q := .mk fun B F H σ Q' W S s => by
  refine wE_of (pe_listRg hc hg hm (prg_1 hg2 hm2 pE he) he2) (h B F H σ _ W S fun x M1 v F1 H1 hx W1 s1 vx => ?_)
  obtain ⟨n, rfl, hn, q⟩ := hx
  have vx : Dt F1 v (.int n) := vx
  cases vx
  refine ⟨n, rfl, .of_le (by omega) (by omega) (by omega) (by omega), fun d hd => ?_⟩
  rw [rgV_ints]
  exact s _ _ _ F1 _ (q d) (W1.newl hd (of_ints _)) s1 rfl
/-! ### great ints -/
def CPowW (i j : Int) : Prop := 0 ≤ j ∧ (Builtin.Int.intBits i : Int) * j ≤ 2 ^ 27
theorem op_powW : OpR X (binaryOp .Pow) (rI CPowW fun i j => .int (i ^ j.toNat)) := opI fun _ _ _ _ _ _ _ hc q => pow_int hc.1 hc.2 q
theorem gpowW (h : GE X ρ M a (i2 (fun i j M2 => CPowW i j ∧ Q (.pu (.int (i ^ j.toNat))) M2) X ρ b)) : GE X ρ M (.BinOp a .Pow b pos) Q := ge2 op_powW (h.mono fun x M1 ⟨i, e, h⟩ => e ▸ h.mono fun y M2 ⟨j, e, h⟩ => e ▸ rI_ h.1 h.2)
theorem gmulW (h : GE X ρ M a (i2 (fun i j M2 => CMulW i j ∧ Q (.pu (.int (i * j))) M2) X ρ b)) : GE X ρ M (.BinOp a .Mult b pos) Q := ge2 op_mulW (h.mono fun x M1 ⟨i, e, h⟩ => e ▸ h.mono fun y M2 ⟨j, e, h⟩ => e ▸ rI_ h.1 h.2)
/-! ### the script -/
def ScrK (K : PySem.W.Frag) (a : Addr) (xs : List V) : Prop := ∃ (o : Obj) (its : Array Value) (n : Nat), K.lookup a = some o ∧ o.cls = .type "list" ∧ o.dict = none ∧ o.data = .seq its n ∧ its.size ≤ sizeLine ∧ Vals xs its.toList
inductive Scr (K : PySem.W.Frag) (M : Mem) (a : Addr) (ns : List Int) : Prop where
  | own : (a, MO.frz (ns.map V.int)) ∈ M → Scr K M a ns
  | kit : ScrK K a (ns.map V.int) → Scr K M a ns
theorem Scr.sq {K : PySem.W.Frag} {B : Bs} {F H : Hp} {a : Addr} {ns : List Int} (h : Scr K M a ns) (W : Wd B F H M) : SqL K H a (ns.map V.int) := by
  cases h with
  | own h =>
    obtain ⟨_, o, e⟩ := W.mem _ h
    exact .inl (.inr ⟨o, e⟩)
  | kit h => exact .inr h
theorem gslS {lo hi : Option Expr} {p2 : Pos} (h : GE X ρ M e fun x M1 => GO X ρ M1 (fun i M2 => GO X ρ M2 (fun j M3 => ∃ a ns, x = .rf (.ref a) ∧ Scr X.K M3 a ns ∧ ∀ l, Q (.rf (.ref l)) ((l, .lst (cutL (pints ns) i j)) :: M3)) hi) lo) : GE X ρ M (.Subscript e (.Slice lo hi none p2) pos) Q := .mk fun B F H σ Q' W S s => by
  refine wE_of (pe_slice sl_list pE pOpt pOpt) (h B F H σ _ W S fun x M1 v F1 H1 hx W1 s1 vx => ?_)
  refine goRun W1 (pMono s1 S) (fun i M2 F2 H2 hy W2 s2 => ?_) hx
  refine goRun W2 (pMono (s1.trans s2) S) (fun j M3 F3 H3 hz W3 s3 => ?_) hy
  obtain ⟨a, ns, rfl, sc, q⟩ := hz
  obtain rfl : v = .ref a := vx
  exact ⟨a, _, rfl, sc.sq W3, fun q' hq => s _ _ _ F3 _ (q q') (W3.newl hq (paired_cut i j (of_ints ns))) ((s1.trans s2).trans s3) rfl⟩
end
end G

namespace G
open PySem PySem.Spec PyProof.Rows L2
/-- what a law asks of its own def -/
def LawS (K : PySem.W.Frag) (n : Nat) : GSpec := fun rs M Kk => ∃ a ns, rs = [.rf (.ref a)] ∧ Scr K M a ns ∧ ns.length ≤ n ∧ (∀ z ∈ ns, Builtin.Int.intBits z ≤ 1048576) ∧ (M = [] ∨ ∃ mo, M = [(a, mo)]) ∧ ∀ M', Kk (.pu (.bool true)) M'
section
variable {P : Program} {w : World} {K : PySem.W.Frag} {mg mb : Str → Option Value} {k n : Nat} {fa a : Addr} {fd : FuncData} {x : Str} {t : Shared} {vs : List Value} {ns : List Int}
abbrev scO (vs : List Value) : Obj := { cls := .type "list", data := .seq vs.toArray }
abbrev EndsWell (t : Shared) (r : Result) (t' : Shared) : Prop := r = .ok (.ret (.bool true)) ∧ OldK t.heap t'.heap ∧ t'.os = t.os ∧ AllBare t'.gens
theorem head_at {H : Hp} {S : GSpec} (KX : K.In t.heap) (nm : t.heap.Ns mainGlobals mg) (nb : t.heap.Ns builtinsNs mb) (hbb : ∀ x : Str, x ≠ "__name__" → mb x = bootBuiltins x) (lim : t.heap.NoLimit) (gn : t.gens = #[])
    (ha : t.heap.get? a = some (scO vs)) (hr : Room k callerA) (FF : ∀ base : Heap, K.In base → base.Ns mainGlobals mg → FnG P w K mg base k fa fd [x] S) (bd : ∀ (s : Shared) (u : Value), BindsTo s fd ⟨[u], []⟩ [(x, u)])
    (only : Only H) (ok : HOk P w H t.heap) (one : ∀ b, H b ≠ none → b = a) (nk : H a ≠ none → K.lookup a = none) (sp : spG S [.ref a] H (fun v _ => v = .bl true) E0) :
    codeAny (model P w) callerA (.call (.ref fa) ⟨[.ref a], []⟩) (EndsWell t) t := by
  have free : ∀ {b : Addr} {o : Obj} {es : Array DictEntry} {ep : Nat}, t.heap.get? b = some o → o.data = .dict es ep → H b = none := by
    intro b o es ep e d
    refine Classical.byContradiction fun hn => ?_
    have eb := one b hn
    rw [eb, ha] at e
    cases e
    cases d
  have hid : ∀ {b : Addr} {m : Str → Option Value}, t.heap.Ns b m → (hidT t.heap H).Ns b m := by
    rintro b m ⟨o, es, ep, e, d, r⟩
    exact ⟨o, es, ep, hidT_get e (free e d), d, r⟩
  have kin : K.In (hidT t.heap H) := by
    intro b o e
    refine hidT_get (KX b o e) (Classical.byContradiction fun hn => ?_)
    have eb := one b hn
    rw [eb] at hn e
    rw [nk hn] at e
    cases e
  have md : Mod K mg (hidT t.heap H) := by
    obtain ⟨mc, l1, l2⟩ := lim
    exact ⟨kin, hid nm, ⟨mb, hid nb, hbb⟩, ⟨mc, hid l1, l2⟩⟩
  have e0 : Env0 P w K mg (hidT t.heap H) callerA [] t H := ⟨rfl, md, fun b o e => of_hidT e, Nat.le_of_eq (hidT_size _ _), trivial, fun b hb => (List.not_mem_nil hb).elim, ok, .of_eq gn⟩
  have ran := (FF _ kin (hid nm)).run callerA [] t H ⟨[.ref a], []⟩ [.ref a] [.ref a] _ rfl hr e0 (bd t (.ref a)) (.cons rfl .nil) sp
  refine codeAny_mono ran fun r t' h => ?_
  match r, h with
  | .error _, h => exact False.elim h
  | .ok .next, h => exact False.elim h
  | .ok .brk, h => exact False.elim h
  | .ok .cont, h => exact False.elim h
  | .ok (.ret u), h =>
    obtain ⟨v, H', os, bare, un, ok', rv, q⟩ := h
    have q : v = .bl true := q
    subst q
    have rv : u = Value.bool true := rv
    subst rv
    refine ⟨rfl, OldK.of_keep fun b o e => ?_, os, bare⟩
    rcases only b with z | ⟨ob, xs, z⟩
    · exact un.keep b o e z (fun y => (List.not_mem_nil y).elim) (by simp)
    · have b1 := (ok b _ z).1
      have b2 := (ok' b _ (un.frzs b ob _ z)).1
      rw [e] at b1
      cases b1
      exact b2
theorem law_head (KX : K.In t.heap) (nm : t.heap.Ns mainGlobals mg) (nb : t.heap.Ns builtinsNs mb) (hbb : ∀ x : Str, x ≠ "__name__" → mb x = bootBuiltins x) (lim : t.heap.NoLimit) (gn : t.gens = #[])
    (ha : t.heap.get? a = some (scO vs)) (hi : IntsAre vs ns) (hl : ns.length ≤ n) (hn : n ≤ sizeLine) (hbits : ∀ z ∈ ns, Builtin.Int.intBits z ≤ 1048576) (hr : Room k callerA)
    (FF : ∀ base : Heap, K.In base → base.Ns mainGlobals mg → FnG P w K mg base k fa fd [x] (LawS K n)) (bd : ∀ (s : Shared) (u : Value), BindsTo s fd ⟨[u], []⟩ [(x, u)]) :
    codeAny (model P w) callerA (.call (.ref fa) ⟨[.ref a], []⟩) (EndsWell t) t := by
  have rv := vals_ints hi
  have hl2 : ns.length ≤ sizeLine := Nat.le_trans hl hn
  have sat : ∀ {B : Bs} {F : Hp}, Sat B F (fun r M' => r = .pu (.bool true)) (fun v _ => v = V.bl true) := by
    intro B F r M' v F' H' q W s vv
    subst q
    have vv : Dt F' v (.bool true) := vv
    cases vv
    rfl
  cases hk : K.lookup a with
  | some o =>
    have e := KX a o hk
    rw [ha] at e
    cases e
    have sk : ScrK K a (ns.map V.int) := ⟨_, vs.toArray, _, hk, rfl, rfl, rfl, by rw [List.size_toArray, hi.length]; exact hl2, by simpa using rv⟩
    refine head_at (H := fun _ => none) KX nm nb hbb lim gn ha hr FF bd (fun b => .inl rfl) (fun b u z => by cases (show (none : Option HO) = some u from z)) (fun b z => absurd rfl z) (fun z => absurd rfl z) ?_
    refine ⟨fun _ => none, [.rf (.ref a)], [], fun r _ => r = .pu (.bool true), .cons rfl .nil, ?_, ⟨a, ns, rfl, .kit sk, hl, hbits, .inl rfl, fun _ => rfl⟩, sat⟩
    exact ⟨fun b o e => e, fun b o e => e, fun b o e => .inl (.inl e), fun b o e _ => e, fun b e => e, fun p hp => (List.not_mem_nil hp).elim, List.nodup_nil, fun p hp => (List.not_mem_nil hp).elim⟩
  | none =>
    have at_a : (fun b => if b = a then some (HO.frz (scO vs) (.lst (ns.map V.int))) else none : Hp) a = some (.frz (scO vs) (.lst (ns.map V.int))) := if_pos rfl
    have off : ∀ {b : Addr}, b ≠ a → (fun b => if b = a then some (HO.frz (scO vs) (.lst (ns.map V.int))) else none : Hp) b = none := fun h => if_neg h
    generalize (fun b => if b = a then some (HO.frz (scO vs) (.lst (ns.map V.int))) else none : Hp) = H at at_a off
    refine head_at (H := H) KX nm nb hbb lim gn ha hr FF bd (fun b => ?_) (fun b u z => ?_) (fun b z => ?_) (fun _ => hk) ?_
    · by_cases h : b = a
      · rw [h]
        exact .inr ⟨_, _, at_a⟩
      · exact .inl (off h)
    · by_cases h : b = a
      · subst h
        rw [at_a] at z
        cases z
        exact ⟨ha, by rw [List.length_map]; exact hl2, vs, _, rv, ha⟩
      · rw [off h] at z
        cases z
    · exact Classical.byContradiction fun h => z (off h)
    · refine ⟨fun _ => none, [.rf (.ref a)], [(a, .frz (ns.map V.int))], fun r _ => r = .pu (.bool true), .cons rfl .nil, ?_, ⟨a, ns, rfl, .own List.mem_cons_self, hl, hbits, .inr ⟨_, rfl⟩, fun _ => rfl⟩, sat⟩
      refine ⟨fun b o e => (nomatch e), fun b o e => e, fun b o e => .inl (.inl e), fun b o e _ => e, fun b e => e, fun p hp => ?_, ?_, fun p hp => .inr (List.mem_map_of_mem hp)⟩
      · rw [List.mem_singleton] at hp
        subst hp
        exact ⟨rfl, _, at_a⟩
      · exact List.pairwise_singleton _ _
end
/-- from the promise of the law's def to the statement's goal -/
theorem walkG {l : PySem.W.OpenLaw} {n k : Nat} {q : Program} {loose : List Str} {XP : (Str → Option Value) → Heap → Prop} {YP : World → Heap → Prop} {d : DefRec} {K : Params → PySem.W.Frag} {x : Str}
    (hn : l.most = some n) (hn2 : n ≤ sizeLine) (hdf : d.params.defaults = []) (hr : Room k callerA) (hY : ∀ (w : World) (h : Heap), YP w h → (K w.params).In h)
    (FF : ∀ (w : World) (mg : Str → Option Value) (fa : Addr) (h : Heap), (K w.params).In h → h.Ns mainGlobals mg → mg d.name = some (.ref fa) → ∃ fd : FuncData, (∀ (s : Shared) (u : Value), BindsTo s fd ⟨[u], []⟩ [(x, u)]) ∧
      ∀ base : Heap, (K w.params).In base → base.Ns mainGlobals mg → FnG l.prog w (K w.params) mg base k fa fd [x] (LawS (K w.params) n)) :
    PySem.W.WalkO q loose XP YP l.row.toRowW d [] (fun f vs => PySem.call f vs) := by
  refine Att.attach_callB hn hdf fun w s₀ t mg mb fa o pm cd doc a vs ns G Y _ _ _ hmg hobj hints hlen hbits hg => ?_
  have KX := hY w _ Y
  obtain ⟨fd, hb, hF⟩ := FF w mg fa _ KX G.T.g hmg
  exact law_head KX G.T.g G.T.b G.T.builtins G.T.nolimit hg hobj hints hlen hn2 hbits hr hF hb
end G

namespace G
open PySem PySem.Spec PyProof.Rows L2
theorem iteY {k : Bool} {A B : Prop} (h : k = true) (q : A) : if k = true then A else B := by
  subst h
  exact iteT q
theorem iteN {k : Bool} {A B : Prop} (h : k = false) (q : B) : if k = true then A else B := by
  subst h
  exact iteF q
/-- both ways -/
theorem iteB {k : Bool} {A B : Prop} (h1 : k = true → A) (h2 : k = false → B) : if k = true then A else B := by
  cases k with
  | true => exact iteT (h1 rfl)
  | false => exact iteF (h2 rfl)
section
variable {X : Cx} {ρ : List SD} {M : Mem} {Q : Kn} {pos : Pos} {elt tg it tg1 it1 : Expr} {ifs ifs1 : List Expr} {scope : Scope} {own : List (Str × Nat)} {t t1 : Tg} {vs vs1 : List Nat}
/-- what a comprehension makes whose turns change nothing: the items g i of the i below n for which c i -/
def fm (n : Nat) (c : Nat → Bool) (g : Nat → SD) : List SD := ((List.range n).filter c).map g
theorem fm_succ (n : Nat) (c : Nat → Bool) (g : Nat → SD) : fm (n + 1) c g = if c n = true then fm n c g ++ [g n] else fm n c g := by
  unfold fm
  rw [List.range_succ, List.filter_append]
  cases h : c n <;> simp [h]
theorem fm_len (n : Nat) (c : Nat → Bool) (g : Nat → SD) : (fm n c g).length ≤ n := by
  unfold fm
  rw [List.length_map]
  have := List.length_filter_le c (List.range n)
  rw [List.length_range] at this
  exact this
theorem fm_all (n : Nat) (g : Nat → SD) : fm n (fun _ => true) g = (List.range n).map g := by
  unfold fm
  rw [List.filter_eq_self.mpr (fun _ _ => rfl)]
theorem gts_nil {Y : Cx} {Q : Bool → Mem → Prop} (h : Q true M) : GTs Y ρ M [] Q := h
theorem gts_one {Y : Cx} {c : Expr} {Q : Bool → Mem → Prop} (h : GT Y ρ M c Q) : GTs Y ρ M [c] Q := h
theorem lc_fm {n : Nat} {item : Nat → SD} (c : Nat → Bool) (g : Nat → SD) (hn : n ≤ 100000)
    (turn : ∀ i, i < n → ∃ ρ2, t.put (wipeR ρ vs) (item i) = some ρ2 ∧ (∀ Y, Blk X scope Y → GTs Y ρ2 M ifs fun b M2 => b = c i ∧ M2 = M) ∧ (c i = true → ∀ Y, Blk X scope Y → GE Y ρ2 M elt fun r M2 => r = g i ∧ M2 = M))
    (fin : ∀ l, Q (.rf (.ref l)) ((l, .lst (fm n c g)) :: M)) : LComp X scope ρ vs t ifs elt Q n item M := by
  refine ⟨hn, fun i acc M' => acc = fm i c g ∧ M' = M, ⟨rfl, rfl⟩, fun i acc M' hi ha hp => ?_, fun acc M' ha hp l => ?_⟩
  · obtain ⟨rfl, rfl⟩ := hp
    obtain ⟨ρ2, hput, ht, he⟩ := turn i hi
    refine ⟨ρ2, hput, fun Y hY => ?_⟩
    have hT := ht Y hY
    have step : ∀ b M2, b = c i ∧ M2 = M' → if b = true then ∀ Y2, Blk X scope Y2 → GE Y2 ρ2 M2 elt (fun r M3 => fm i c g ++ [r] = fm (i + 1) c g ∧ M3 = M') else fm i c g = fm (i + 1) c g ∧ M2 = M' := by
      rintro b M2 ⟨rfl, rfl⟩
      cases hc : c i with
      | true =>
        refine iteT fun Y2 hY2 => (he hc Y2 hY2).mono fun r M3 ⟨e1, e2⟩ => ⟨?_, e2⟩
        rw [fm_succ, if_pos hc, e1]
      | false =>
        refine iteF ⟨?_, rfl⟩
        rw [fm_succ, if_neg (by rw [hc]; exact Bool.false_ne_true)]
    match ifs, hT with
    | [], hT => exact step true M' hT
    | [c0], hT => exact (show GT Y ρ2 M' c0 _ from hT).mono step
  · obtain ⟨rfl, rfl⟩ := hp
    exact fin l
theorem lc_map {n : Nat} {item : Nat → SD} (g : Nat → SD) (hn : n ≤ 100000)
    (turn : ∀ i, i < n → ∃ ρ2, t.put (wipeR ρ vs) (item i) = some ρ2 ∧ ∀ Y, Blk X scope Y → GE Y ρ2 M elt fun r M2 => r = g i ∧ M2 = M)
    (fin : ∀ l, Q (.rf (.ref l)) ((l, .lst ((List.range n).map g)) :: M)) : LComp X scope ρ vs t [] elt Q n item M :=
  lc_fm (fun _ => true) g hn (fun i hi => let ⟨ρ2, a, b⟩ := turn i hi; ⟨ρ2, a, fun Y hY => ⟨rfl, rfl⟩, fun _ => b⟩) fun l => by
    rw [fm_all]
    exact fin l
/-- two fors -/
def fm2 (n : Nat) (n1 : Nat → Nat) (c : Nat → Nat → Bool) (g : Nat → Nat → SD) : List SD := (List.range n).flatMap fun i => fm (n1 i) (c i) (g i)
theorem fm2_succ (n : Nat) (n1 : Nat → Nat) (c : Nat → Nat → Bool) (g : Nat → Nat → SD) : fm2 (n + 1) n1 c g = fm2 n n1 c g ++ fm (n1 n) (c n) (g n) := by
  unfold fm2
  rw [List.range_succ, List.flatMap_append]
  simp
theorem fm2_len {n m : Nat} {n1 : Nat → Nat} (c : Nat → Nat → Bool) (g : Nat → Nat → SD) (h : ∀ i, i < n → n1 i ≤ m) : ∀ i, i ≤ n → (fm2 i n1 c g).length ≤ i * m := by
  intro i
  induction i with
  | zero => intro _; exact Nat.zero_le _
  | succ i ih =>
    intro hi
    rw [fm2_succ, List.length_append, Nat.succ_mul]
    exact Nat.add_le_add (ih (by omega)) (Nat.le_trans (fm_len _ _ _) (h i (by omega)))
theorem lc2_fm {n m : Nat} {item : Nat → SD} (n1 : Nat → Nat) (item1 : Nat → Nat → SD) (c : Nat → Nat → Bool) (g : Nat → Nat → SD) (hm : ∀ i, i < n → n1 i ≤ m) (hn : (n + 1) * m < 50000)
    (turn : ∀ i, i < n → ∃ ρ2, t.put (wipeR ρ vs) (item i) = some ρ2 ∧ ∀ Y, Blk X scope Y → GI Y ρ2 M tg1 it1 fun n' it' M2 => n' = n1 i ∧ it' = item1 i ∧ M2 = M ∧
      ∀ j, j < n1 i → ∃ ρ3, t1.put (wipeR ρ2 vs1) (item1 i j) = some ρ3 ∧ (∀ Y, Blk X scope Y → GTs Y ρ3 M ifs1 fun b M2 => b = c i j ∧ M2 = M) ∧ (c i j = true → ∀ Y, Blk X scope Y → GE Y ρ3 M elt fun r M2 => r = g i j ∧ M2 = M))
    (fin : ∀ l, Q (.rf (.ref l)) ((l, .lst (fm2 n n1 c g)) :: M)) : LComp2 X scope ρ vs vs1 t t1 [] tg1 it1 ifs1 elt Q n item M := by
  have bnd : ∀ i, i ≤ n → (fm2 i n1 c g).length ≤ n * m := fun i hi => Nat.le_trans (fm2_len c g hm i hi) (Nat.mul_le_mul_right m hi)
  refine ⟨fun i acc M' => i ≤ n ∧ acc = fm2 i n1 c g ∧ M' = M, ⟨Nat.zero_le _, rfl, rfl⟩, fun i acc M' hp => ?_, fun i acc M' hi hp => ?_, fun acc M' hp l => ?_⟩
  · obtain ⟨h, rfl, rfl⟩ := hp
    have := bnd i h
    rw [Nat.succ_mul] at hn
    omega
  · obtain ⟨h, rfl, rfl⟩ := hp
    obtain ⟨ρ2, hput, hI⟩ := turn i hi
    refine ⟨ρ2, hput, fun Y hY => gts_nil (iteT fun Y1 hY1 => .mk fun B F H σ R' W S s => ?_)⟩
    refine hI Y1 hY1 B F H σ R' W S fun n' it' M2 J F' H' hx W' s' gi => ?_
    obtain ⟨rfl, rfl, rfl, inner⟩ := hx
    refine s _ _ M2 J F' H' ?_ W' s' gi
    refine ⟨fun j acc M' => j ≤ n1 i ∧ acc = fm2 i n1 c g ++ fm j (c i) (g i) ∧ M' = M2, ⟨Nat.zero_le _, by simp [fm], rfl⟩, fun j acc M' hp => ?_, fun j acc2 M4 hj hp => ?_, fun acc2 M4 hp => ?_⟩
    · obtain ⟨h3, rfl, rfl⟩ := hp
      have e1 := bnd i h
      have e2 := fm_len j (c i) (g i)
      have e3 := hm i hi
      rw [Nat.succ_mul] at hn
      rw [List.length_append]
      omega
    · obtain ⟨h3, rfl, rfl⟩ := hp
      obtain ⟨ρ3, hput3, ht, he⟩ := inner j hj
      refine ⟨ρ3, hput3, fun Y hY => ?_⟩
      have hT := ht Y hY
      have step : ∀ b M2, b = c i j ∧ M2 = M4 → if b = true then ∀ Y2, Blk X scope Y2 → GE Y2 ρ3 M2 elt (fun r M3 => j + 1 ≤ n1 i ∧ (fm2 i n1 c g ++ fm j (c i) (g i)) ++ [r] = fm2 i n1 c g ++ fm (j + 1) (c i) (g i) ∧ M3 = M4) else j + 1 ≤ n1 i ∧ fm2 i n1 c g ++ fm j (c i) (g i) = fm2 i n1 c g ++ fm (j + 1) (c i) (g i) ∧ M2 = M4 := by
        rintro b M2 ⟨rfl, rfl⟩
        cases hc : c i j with
        | true =>
          refine iteT fun Y2 hY2 => (he hc Y2 hY2).mono fun r M3 ⟨e1, e2⟩ => ⟨hj, ?_, e2⟩
          rw [fm_succ, if_pos hc, e1, List.append_assoc]
        | false =>
          refine iteF ⟨hj, ?_, rfl⟩
          rw [fm_succ, if_neg (by rw [hc]; exact Bool.false_ne_true)]
      match ifs1, hT with
      | [], hT => exact step true M4 hT
      | [c0], hT => exact (show GT Y ρ3 M4 c0 _ from hT).mono step
    · obtain ⟨h3, rfl, rfl⟩ := hp
      exact ⟨hi, by rw [fm2_succ], rfl⟩
  · obtain ⟨h, rfl, rfl⟩ := hp
    exact fin l
end
/-- a statement up to a middle state, then the rest -/
theorem bseq {X : Cx} {ρ : List SD} {M : Mem} {st : Stmt} {sts : List Stmt} {D : GD} (R : List SD → Mem → Prop) (h : GS X ρ M st { D with nx := R }) (h2 : ∀ ρ' M', R ρ' M' → GB X ρ' M' sts D) : GB X ρ M (st :: sts) D :=
  bcons <| .mk fun B F H σ D' W S s => h B F H σ D' W S ⟨fun ρ1 M1 σ1 F1 H1 q W1 s1 S1 => s.nx ρ1 M1 σ1 F1 H1 (h2 _ _ q) W1 s1 S1, s.rt, s.bk, s.ct⟩
/-! ### a def that is called by its name -/
structure Cal (P : Program) (w : World) (K : PySem.W.Frag) (mg : Str → Option Value) (base : Heap) (k : Nat) (x : Str) (st : Stmt) (ps : List Str) (S : GSpec) : Prop where
  ex : ∃ f fd, Fun K x x st f fd ∧ mg x = some (.ref f) ∧ Binds K fd ps [] ∧ FnG P w K mg base k f fd ps S
theorem Cal.mono {P : Program} {w : World} {K : PySem.W.Frag} {mg : Str → Option Value} {base : Heap} {j k : Nat} {x : Str} {st : Stmt} {ps : List Str} {S : GSpec} (C : Cal P w K mg base j x st ps S) (h : j ≤ k) : Cal P w K mg base k x st ps S := by
  obtain ⟨f, fd, F, m, b, G⟩ := C.ex
  exact ⟨f, fd, F, m, b, G.mono h⟩
section
variable {X : Cx} {ρ : List SD} {M : Mem} {Q : Kn} {pos p : Pos} {e : Expr} {es : List Expr} {k : Nat} {x : Str} {st : Stmt} {ps : List Str} {S : GSpec}
theorem gcal (C : Cal X.prog X.w X.K X.mg X.base k x st ps S) (hgd : X.A.guards = some []) (hr : Room k X.A)
    (h : GA X ρ M (e :: es) fun rs M1 => ∃ Ma Mr, M1.Perm (Ma ++ Mr) ∧ S rs Ma fun r M' => Q r (M' ++ Mr)) (hg : Gl X x := by rfl) (hdb : (x == ("__debug__" : Str)) = false := by decide)
    (he : starEach (e :: es) X.env = (false, eval e X.env) :: starEach es X.env := by rfl) (hpl : (backTo pos (starEach es X.env)).any (·.1) = false := by rfl) : GE X ρ M (.Call (.Name x p) (e :: es) [] pos) Q := by
  obtain ⟨f, fd, F, m, b, G⟩ := C.ex
  exact gcall G hgd hr m F.kp b h hg hdb he hpl
/-- the same, all of its arguments data and nothing given away -/
theorem gcalP (C : Cal X.prog X.w X.K X.mg X.base k x st ps S) (hgd : X.A.guards = some []) (hr : Room k X.A)
    (h : GA X ρ M (e :: es) fun rs M1 => S rs [] fun r M' => Q r (M' ++ M1)) (hg : Gl X x := by rfl) (hdb : (x == ("__debug__" : Str)) = false := by decide)
    (he : starEach (e :: es) X.env = (false, eval e X.env) :: starEach es X.env := by rfl) (hpl : (backTo pos (starEach es X.env)).any (·.1) = false := by rfl) : GE X ρ M (.Call (.Name x p) (e :: es) [] pos) Q :=
  gcal C hgd hr (.mk fun B F H σ Q' W S' s => h B F H σ Q' W S' fun rs M1 vs F1 H1 hx W1 s1 vx => s rs M1 vs F1 H1 ⟨[], M1, .refl _, hx⟩ W1 s1 vx) hg hdb he hpl
/-- lists that nobody knows any more are forgotten -/
theorem gf (h : GE X ρ M e fun r M' => ∃ M2, List.Sublist M2 M' ∧ Q r M2) : GE X ρ M e Q := .mk fun B F H σ Q' W S' s => h B F H σ Q' W S' fun r M' v F' H' q W' s' vv => by
  obtain ⟨M2, sub, q⟩ := q
  exact s r M2 v F' H' q (W'.sub sub) s' vv
theorem tf {QT : Bool → Mem → Prop} (h : GT X ρ M e fun r M' => ∃ M2, List.Sublist M2 M' ∧ QT r M2) : GT X ρ M e QT := .mk fun B F H σ Q' W S' s => h B F H σ Q' W S' fun r M' F' H' q W' s' => by
  obtain ⟨M2, sub, q⟩ := q
  exact s r M2 F' H' q (W'.sub sub) s'
/-- a call that takes data and gives data -/
theorem gcalD (mono : ∀ rs M Kk Kk', S rs M Kk → (∀ r M', Kk r M' → Kk' r M') → S rs M Kk') (C : Cal X.prog X.w X.K X.mg X.base k x st ps S) (hgd : X.A.guards = some []) (hr : Room k X.A)
    (h : GA X ρ M (e :: es) fun rs M1 => S rs [] fun r _ => Q r M1) (hg : Gl X x := by rfl) (hdb : (x == ("__debug__" : Str)) = false := by decide)
    (he : starEach (e :: es) X.env = (false, eval e X.env) :: starEach es X.env := by rfl) (hpl : (backTo pos (starEach es X.env)).any (·.1) = false := by rfl) : GE X ρ M (.Call (.Name x p) (e :: es) [] pos) Q :=
  gf (gcalP C hgd hr (.mk fun B F H σ Q' W S' s => h B F H σ Q' W S' fun rs M1 vs F1 H1 hx W1 s1 vx => s rs M1 vs F1 H1 (mono _ _ _ _ hx fun r M' q => ⟨M1, List.sublist_append_right _ _, q⟩) W1 s1 vx) hg hdb he hpl)
end
end G

namespace G
open PySem PySem.Spec PyProof.Rows L2
/-! ### tables, the search: the mathematics -/
abbrev Tab := List (List Int)
abbrev rowD (r : List Int) : PyData := .list (r.map .int)
abbrev tab (T : Tab) : PyData := .list (T.map rowD)
structure IsTab (T : Tab) (n : Nat) : Prop where
  pos : 0 < T.length
  le : T.length ≤ 8
  npos : 0 < n
  nle : n ≤ 8
  rows : ∀ r ∈ T, r.length = n
abbrev plD (p : Nat × Nat) : PyData := .tuple [.int (p.1 : Nat), .int (p.2 : Nat)]
abbrev enD (p : Int × Int) : PyData := .tuple [.int p.1, .int p.2]
abbrev pld (p : Nat × Nat) : SD := .pu (plD p)
def val (T : Tab) (i j : Nat) : Int := (T.getD i []).getD j 0
def go (T : Tab) (k : Int) : Nat → Nat → Nat → List (Nat × Nat) × (Int × Int)
  | 0, i, c => ([], ((i : Int), (c : Int) - 1))
  | f + 1, i, c => if i < T.length ∧ 0 < c then
      if val T i (c - 1) = k then ([(i, c - 1)], ((i : Int), (c : Int) - 1))
      else if val T i (c - 1) < k then ((i, c - 1) :: (go T k f (i + 1) c).1, (go T k f (i + 1) c).2)
      else ((i, c - 1) :: (go T k f i (c - 1)).1, (go T k f i (c - 1)).2)
    else ([], ((i : Int), (c : Int) - 1))
def run (T : Tab) (n : Nat) (k : Int) : List (Nat × Nat) × (Int × Int) := go T k (T.length + n) 0 n
theorem IsTab.row {T : Tab} {n i : Nat} (t : IsTab T n) (h : i < T.length) : T[i].length = n := t.rows _ (List.getElem_mem h)
theorem IsTab.val {T : Tab} {n i j : Nat} (t : IsTab T n) (hi : i < T.length) (hj : j < n) : G.val T i j = T[i][j]'(by rw [t.row hi]; exact hj) := by
  unfold G.val
  have h : j < T[i].length := by rw [t.row hi]; exact hj
  simp only [List.getD_eq_getElem?_getD, List.getElem?_eq_getElem hi, Option.getD_some, List.getElem?_eq_getElem h]
theorem le1 {α : Type} {a : α} : [a].length ≤ 100000 := (by decide : 1 ≤ 100000)
theorem le2 {α : Type} {a b : α} : [a, b].length ≤ 100000 := (by decide : 2 ≤ 100000)
theorem le3 {α : Type} {a b c : α} : [a, b, c].length ≤ 100000 := (by decide : 3 ≤ 100000)
theorem pld_map (L : List (Nat × Nat)) : L.map pld = (L.map plD).map SD.pu := by rw [List.map_map]; rfl
theorem item_at {ds : List PyData} {i : Nat} (h : i < ds.length) : nth ds i = .pu ds[i] := nth_get (List.getElem?_eq_getElem h)
theorem row_len {r : List Int} {M : Mem} : Len M (.pu (rowD r)) r.length := by
  have z := Len.lst (M := M) (LV.pu (ds := r.map .int))
  rw [List.length_map, List.length_map] at z
  exact z
theorem tab_len {T : Tab} {M : Mem} : Len M (.pu (tab T)) T.length := by
  have z := Len.lst (M := M) (LV.pu (ds := T.map rowD))
  rw [List.length_map, List.length_map] at z
  exact z
theorem tab_ix {T : Tab} {M : Mem} {i : Nat} (h : i < T.length) : Item M (.pu (tab T)) (i : Int) (.pu (rowD T[i])) := .lst (atI_nat (j := i) (by rw [List.getElem?_map, List.getElem?_eq_getElem h]; rfl))
theorem row_ix {r : List Int} {M : Mem} {j : Nat} (h : j < r.length) : Item M (.pu (rowD r)) (j : Int) (.pu (.int r[j])) := .lst (atI_nat (j := j) (by rw [List.getElem?_map, List.getElem?_eq_getElem h]; rfl))
theorem val_ix {T : Tab} {M : Mem} {n i j : Nat} (t : IsTab T n) (hi : i < T.length) (hj : j < n) : Item M (.pu (rowD T[i])) (j : Int) (.pu (.int (val T i j))) := by
  rw [t.val hi hj]
  exact row_ix _
theorem go_len (T : Tab) (k : Int) : ∀ (f i c : Nat), (go T k f i c).1.length ≤ f
  | 0, i, c => Nat.zero_le _
  | f + 1, i, c => by
    unfold go
    have h1 := go_len T k f (i + 1) c
    have h2 := go_len T k f i (c - 1)
    split
    · split
      · exact Nat.succ_le_succ (Nat.zero_le f)
      · split
        · exact Nat.succ_le_succ h1
        · exact Nat.succ_le_succ h2
    · exact Nat.zero_le _
theorem eqv_pl (a b c d : Int) : PyData.eqv (.tuple [.int a, .int b]) (.tuple [.int c, .int d]) = decide ((a, b) = (c, d)) := by
  have e : PyData.eqv (.tuple [.int a, .int b]) (.tuple [.int c, .int d]) = (decide (a = c) && decide (b = d)) := by
    simp [PyData.eqv, PyData.eqvAll]
    rfl
  rw [e]
  by_cases h1 : a = c <;> by_cases h2 : b = d <;> simp [h1, h2]
/-- whether the search for a place's own value ends there -/
def isF (T : Tab) (n i j : Nat) : Bool := decide ((run T n (val T i j)).2 = ((i : Int), (j : Int)))
def foundIn (T : Tab) (n : Nat) : List (Nat × Nat) := (List.range T.length).flatMap fun i => ((List.range n).filter (isF T n i)).map fun j => (i, j)
theorem fm2_found (T : Tab) (n : Nat) : fm2 T.length (fun _ => n) (isF T n) (fun i j => pld (i, j)) = (foundIn T n).map pld := by
  unfold fm2 foundIn fm
  rw [List.map_flatMap]
  congr 1
  funext i
  rw [List.map_map]
  rfl
def turn (T : Tab) (n : Nat) : Tab := (List.range n).map fun j => T.map fun r => r.getD j 0
theorem turn_is {T : Tab} {n : Nat} (t : IsTab T n) : IsTab (turn T n) T.length where
  pos := by simp [turn, t.npos]
  le := by simp [turn, t.nle]
  npos := t.pos
  nle := t.le
  rows := fun r hr => by
    obtain ⟨j, _, e⟩ := List.mem_map.mp hr
    rw [← e, List.length_map]
theorem turn_len (T : Tab) (n : Nat) : (turn T n).length = n := by simp [turn]
theorem col_turn {T : Tab} {n j : Nat} (t : IsTab T n) (h : j < n) : col (T.map fun r => r.map PyData.int) j = (T.map fun r => r.getD j 0).map PyData.int := by
  unfold col
  rw [List.map_map, List.map_map]
  refine List.map_congr_left fun r hr => ?_
  have hl : j < r.length := by rw [t.rows r hr]; exact h
  show ((r.map PyData.int)[j]?).getD .none = PyData.int (r.getD j 0)
  rw [List.getElem?_map, List.getElem?_eq_getElem hl, List.getD_eq_getElem?_getD, List.getElem?_eq_getElem hl]
  rfl
theorem range_map {α β : Type} (L : List α) (d : α) (h : α → β) : (List.range L.length).map (fun i => h (L.getD i d)) = L.map h := by
  apply List.ext_getElem
  · simp
  · intro i h1 h2
    have hi : i < L.length := by simpa using h1
    rw [List.getElem_map, List.getElem_map, List.getElem_range, List.getD_eq_getElem?_getD, List.getElem?_eq_getElem hi, Option.getD_some]
theorem getD_at {α : Type} {L : List α} {d : α} {i : Nat} (h : i < L.length) : L.getD i d = L[i] := by rw [List.getD_eq_getElem?_getD, List.getElem?_eq_getElem h, Option.getD_some]
theorem nth_map {α : Type} (f : α → PyData) {L : List α} {i : Nat} (d : α) (h : i < L.length) : nth (L.map f) i = .pu (f (L.getD i d)) := by
  rw [item_at (by rw [List.length_map]; exact h), List.getElem_map, getD_at h]
theorem found_in {T : Tab} {n : Nat} {p : Nat × Nat} (h : p ∈ foundIn T n) : p.1 < T.length ∧ p.2 < n ∧ isF T n p.1 p.2 = true := by
  obtain ⟨i, hi, h⟩ := List.mem_flatMap.mp h
  obtain ⟨j, hj, e⟩ := List.mem_map.mp h
  obtain ⟨h1, h2⟩ := List.mem_filter.mp hj
  subst e
  exact ⟨List.mem_range.mp hi, List.mem_range.mp h1, h2⟩
theorem found_of {T : Tab} {n i j : Nat} (h1 : i < T.length) (h2 : j < n) (h : isF T n i j = true) : (i, j) ∈ foundIn T n :=
  List.mem_flatMap.mpr ⟨i, List.mem_range.mpr h1, List.mem_map.mpr ⟨j, List.mem_filter.mpr ⟨List.mem_range.mpr h2, h⟩, rfl⟩⟩
theorem found_len {T : Tab} {n : Nat} (t : IsTab T n) : (foundIn T n).length ≤ 64 := by
  have h := fm2_len (n := T.length) (m := n) (n1 := fun _ => n) (isF T n) (fun i j => pld (i, j)) (fun _ _ => Nat.le_refl _) T.length (Nat.le_refl _)
  rw [fm2_found, List.length_map] at h
  exact Nat.le_trans h (Nat.mul_le_mul t.le t.nle)
/-- what the search from below finds, in the order of the turned table -/
def belowOf (T : Tab) (n : Nat) : List (Int × Int) := (foundIn (turn T n) T.length).map fun p => ((p.2 : Int), (p.1 : Int))
def fvals (T : Tab) (n : Nat) : List Int := (foundIn T n).map fun p => val T p.1 p.2
end G

namespace G
open PySem PySem.Spec PyProof.Rows L2
/-! ### sorted(pairs of ints) -/
abbrev end_ (p : Int × Int) : SD := .pu (enD p)
abbrev PrH (H : Hp) (as : List Addr) (ps : List (Int × Int)) : Prop := Paired (fun (a : Addr) (p : Int × Int) => H a = some (HO.tup [V.int p.1, V.int p.2])) as ps
def lexLe (p q : Int × Int) : Prop := p.1 < q.1 ∨ (p.1 = q.1 ∧ p.2 ≤ q.2)
def prA (H : Hp) (a : Addr) : Int × Int := match H a with
  | some (.tup [.int i, .int j]) => (i, j)
  | _ => (0, 0)
def prV (H : Hp) : Value → Int × Int
  | .ref a => prA H a
  | _ => (0, 0)
theorem prA_of {H : Hp} {a : Addr} {p : Int × Int} (h : H a = some (HO.tup [V.int p.1, V.int p.2])) : prA H a = p := by
  unfold prA
  rw [h]
theorem prH_map {H : Hp} : ∀ {as : List Addr} {ps : List (Int × Int)}, PrH H as ps → as.map (prA H) = ps
  | _, _, .nil => rfl
  | _, _, .cons h t => by rw [List.map_cons, prA_of h, prH_map t]
theorem prH_mem {H : Hp} : ∀ {as : List Addr} {ps : List (Int × Int)}, PrH H as ps → ∀ a ∈ as, H a = some (HO.tup [V.int (prA H a).1, V.int (prA H a).2])
  | _, _, .cons h t, a, ha => by
    rcases List.mem_cons.mp ha with e | e
    · rw [e, prA_of h]
      exact h
    · exact prH_mem t a e
theorem prH_mk {H : Hp} : ∀ {as : List Addr}, (∀ a ∈ as, H a = some (HO.tup [V.int (prA H a).1, V.int (prA H a).2])) → PrH H as (as.map (prA H))
  | [], _ => .nil
  | a :: as, h => .cons (h a List.mem_cons_self) (prH_mk fun b hb => h b (List.mem_cons_of_mem _ hb))
theorem refs_perm {as : List Addr} {out : List Value} (h : out.Perm (as.map Value.ref)) : ∃ bs : List Addr, out = bs.map Value.ref ∧ bs.Perm as := by
  have g : ∀ l : List Value, (∀ v ∈ l, ∃ a, v = Value.ref a) → ∃ bs : List Addr, l = bs.map Value.ref := by
    intro l
    induction l with
    | nil => exact fun _ => ⟨[], rfl⟩
    | cons v l ih =>
      intro hl
      obtain ⟨a, rfl⟩ := hl v List.mem_cons_self
      obtain ⟨bs, rfl⟩ := ih fun u hu => hl u (List.mem_cons_of_mem _ hu)
      exact ⟨a :: bs, rfl⟩
  obtain ⟨bs, rfl⟩ := g out fun v hv => by
    obtain ⟨a, _, e⟩ := List.mem_map.mp (h.mem_iff.mp hv)
    exact ⟨a, e.symm⟩
  refine ⟨bs, rfl, ?_⟩
  have q := h.map fun v => match v with
    | Value.ref a => a
    | _ => 0
  rw [List.map_map, List.map_map] at q
  have e : ∀ l : List Addr, l.map ((fun v => match v with | Value.ref a => a | _ => 0) ∘ Value.ref) = l := fun l => by
    have z : ((fun v => match v with | Value.ref a => a | _ => 0) ∘ Value.ref : Addr → Addr) = id := rfl
    rw [z, List.map_id]
  rwa [e, e] at q
section
variable {X : Cx} {ρ : List SD} {M : Mem} {Q : Kn} {pos : Pos} {e : Expr}
def rSortPl : List V → Hp → VK → Prop := fun vs H Q => ∃ (l : Addr) (as : List Addr) (ps : List (Int × Int)), vs = [.ref l] ∧ H l = some (.lst (as.map V.ref)) ∧ PrH H as ps ∧
  ∀ (bs : List Addr) (d : Addr), bs.Perm as → (bs.map (prA H)).Pairwise lexLe → H d = none → Q (.ref d) (upd H d (.lst (bs.map V.ref)))
theorem vals_refs : ∀ bs : List Addr, Vals (bs.map V.ref) (bs.map Value.ref)
  | [] => .nil
  | b :: bs => .cons rfl (vals_refs bs)
theorem cr_sortPl : CallR X (.builtin "sorted") rSortPl := by
  intro pins s σ H vs us Q I r h
  obtain ⟨l, as, ps, rfl, hl, hp, q⟩ := h
  rw [Vals.ref1 r]
  obtain ⟨hz, its, n, g1, g2, g3⟩ := I.lstM hl
  have eits := refs_of g1
  subst eits
  have L : LAt s.heap l (as.map Value.ref) := ⟨n, g3⟩
  have zz : (as.map Value.ref).length ≤ sizeLine := by
    rw [List.length_map]
    rw [List.length_map] at hz
    exact hz
  refine SrtO.sorted_pairsO (k := prV H) L.isList zz (fun v hv => ?_) fun h' d out b1 b2 kp hd hat => ?_
  · obtain ⟨a, ha, rfl⟩ := List.mem_map.mp hv
    obtain ⟨z, its2, r2, o, ho, hc, m, hd⟩ := I.hok _ _ (prH_mem hp a ha)
    cases r2 with
    | cons r3 r4 =>
      cases r4 with
      | cons r4 r5 =>
        cases r5
        obtain ⟨t1, rfl⟩ := r3
        obtain ⟨t2, rfl⟩ := r4
        exact ⟨a, o, t1, t2, m, rfl, ho, hc, hd⟩
  · obtain ⟨bs, rfl, pb⟩ := refs_perm b2.perm
    obtain ⟨c, hc⟩ := hat
    have lb : (bs.map V.ref).length ≤ sizeLine := by
      rw [List.length_map, pb.length_eq]
      rw [List.length_map] at zz
      exact zz
    refine ⟨.ref d, upd H d (.lst (bs.map V.ref)), I.laid (t' := s.toks) kp hd ⟨lb, bs.map Value.ref, c, vals_refs bs, hc⟩, rfl, q bs d pb ?_ (I.hok.fresh hd)⟩
    rw [List.pairwise_map]
    rw [SrtO.Srtd, List.pairwise_map] at b1
    refine b1.imp fun {a b} h => ?_
    have h := SrtO.lexB_no.mp h
    show lexLe (prA H a) (prA H b)
    have h : ¬ ((prA H b).1 < (prA H a).1 ∨ ((prA H b).1 = (prA H a).1 ∧ (prA H b).2 < (prA H a).2)) := h
    unfold lexLe
    omega
theorem pairs_in {F H : Hp} (fh : Same F H) : ∀ {vs : List V} {ps : List (Int × Int)}, Paired (VOk F) vs (ps.map end_) → ∃ as, vs = as.map V.ref ∧ PrH H as ps ∧ PrH F as ps
  | _, [], .nil => ⟨[], rfl, .nil, .nil⟩
  | _, p :: ps, .cons h t => by
    obtain ⟨as, e, a1, a2⟩ := pairs_in fh t
    have h : Dt F _ (enD p) := h
    cases h with
    | tup h1 h2 =>
      cases h2 with
      | cons x y =>
        cases x
        cases y with
        | cons x y =>
          cases x
          cases y
          subst e
          exact ⟨_ :: as, rfl, .cons (fh _ _ h1) a1, .cons h1 a2⟩
theorem pairs_out {F H : Hp} : ∀ {bs : List Addr} {qs : List (Int × Int)}, PrH F bs qs → Paired (VOk F) (bs.map V.ref) (qs.map end_)
  | _, _, .nil => .nil
  | _, _, .cons h t => .cons (show Dt F (.ref _) (enD _) from .tup h (.cons (.int _) (.cons (.int _) .nil))) (pairs_out (H := H) t)
/-- sorted(xs) of pairs of ints: a new list -/
theorem gsortedP {p : Pos} (hm : X.mg "sorted" = none) (h : GE X ρ M e fun x M1 => ∃ ps : List (Int × Int), LV M1 x (ps.map end_) ∧ ∀ (l : Addr) (qs : List (Int × Int)), qs.Perm ps → qs.Pairwise lexLe → Q (.rf (.ref l)) ((l, .lst (qs.map end_)) :: M1)) (hg : Gl X "sorted" := by rfl) (he : starEach [e] X.env = [(false, eval e X.env)] := by rfl) : GE X ρ M (.Call (.Name "sorted" p) [e] [] pos) Q :=
  gcb cr_sortPl hm PyProof.Rows.boot_sorted (acons (h.mono fun x M1 ⟨ps, lv, q⟩ => anil fun B F H vs Q' W hvs s => by
    obtain ⟨v, rfl, hv⟩ := p1 hvs
    obtain ⟨p, ws, rfl, hp, pr⟩ := lv.at W hv
    obtain ⟨as, rfl, a1, a2⟩ := pairs_in W.fh pr
    refine ⟨p, as, ps, rfl, hp, a1, fun bs d h1 h3 hd => ?_⟩
    have same : ∀ a ∈ bs, F a = some (HO.tup [V.int (prA H a).1, V.int (prA H a).2]) := fun a ha => by
      have ha := h1.mem_iff.mp ha
      have e1 := prH_mem a2 a ha
      have e2 := prH_mem a1 a ha
      have e3 := W.fh _ _ e1
      rw [e2] at e3
      rw [e1, ← e3]
    have hb : ∀ {l : List Addr}, (∀ a ∈ l, F a = some (HO.tup [V.int (prA H a).1, V.int (prA H a).2])) → PrH F l (l.map (prA H)) := by
      intro l
      induction l with
      | nil => exact fun _ => .nil
      | cons a l ih => exact fun h => .cons (h a List.mem_cons_self) (ih fun b hb => h b (List.mem_cons_of_mem _ hb))
    have pm : (bs.map (prA H)).Perm ps := by
      rw [← prH_map a1]
      exact h1.map _
    exact s _ _ _ F _ (q d _ pm h3) (W.newl hd (pairs_out (H := H) (hb same))) (Same.refl F) rfl) he) hg (he := he)
end
end G

namespace G
open PySem PySem.Spec PyProof.Rows L2
/-! ### sorted(triples of ints) -/
abbrev I3 := Int × Int × Int
def l3 (p q : I3) : Prop := p.1 < q.1 ∨ (p.1 = q.1 ∧ (p.2.1 < q.2.1 ∨ (p.2.1 = q.2.1 ∧ p.2.2 < q.2.2)))
instance (p q : I3) : Decidable (l3 p q) := by unfold l3; infer_instance
def l3B (p q : I3) : Bool := decide (l3 p q)
theorem swo_l3 (k : Value → I3) : SrtO.Swo fun v u => l3B (k v) (k u) := by
  refine ⟨fun x y h => ?_, fun x y z h1 h2 => ?_⟩
  · have a := of_decide_eq_true h
    refine decide_eq_false ?_
    unfold l3 at *
    omega
  · have a := of_decide_eq_false h1
    have b := of_decide_eq_false h2
    refine decide_eq_false ?_
    unfold l3 at *
    omega
def IsTrip (h : Heap) (v : Value) (p : I3) : Prop := ∃ a o t u r n, v = .ref a ∧ h.get? a = some o ∧ o.cls = .type "tuple" ∧ o.data = .seq #[.int p.1 t, .int p.2.1 u, .int p.2.2 r] n
theorem IsTrip.keeps {h h' : Heap} {v : Value} {p : I3} (q : IsTrip h v p) (k : ∀ b o, h.get? b = some o → o.cls = .type "tuple" → h'.get? b = some o) : IsTrip h' v p := by
  obtain ⟨a, o, t, u, r, n, e, ho, hc, hd⟩ := q
  exact ⟨a, o, t, u, r, n, e, k _ _ ho hc, hc, hd⟩
section
variable {prog : Program} {w : World} {A : Around} {E : Value → Shared → Prop} {s : Shared}
theorem trip_cmp {vs : List Value} {k : Value → I3} (hp : ∀ v ∈ vs, IsTrip s.heap v (k v)) : SrtO.Cmp prog w A s (tuples' true) (fun p => p.1 ∈ vs) (SrtO.lt2 fun v u => l3B (k v) (k u)) := by
  intro p q hm hm'
  have h1 := hp _ hm
  have h2 := hp _ hm'
  show wpAny (model prog w) A (keyLt' (tuples' true) p.1 q.1) (fun r s' => s' = s ∧ r = l3B (k p.1) (k q.1)) (fun _ _ => False) s
  generalize k p.1 = x at h1 ⊢
  generalize k q.1 = y at h2 ⊢
  obtain ⟨x1, x2, x3⟩ := x
  obtain ⟨y1, y2, y3⟩ := y
  obtain ⟨a, o, t, u, r, n, e, ho, hc, hd⟩ := h1
  obtain ⟨a', o', t', u', r', n', e', ho', hc', hd'⟩ := h2
  rw [e, e']
  refine PySem.W.kat_lt ho hd ho' hd' ?_
  show PySem.W.KatLex prog w A true (decide (3 < 3)) _ [(.int x1 t, .int y1 t'), (.int x2 u, .int y2 u'), (.int x3 r, .int y3 r')] 0 s
  refine PySem.W.kat_cons (SeqAt.EqAt.int_int x1 t y1 t' prog w _ _ ?_)
  refine PySem.W.kat_go (fun e1 => ?_) (fun e1 => ?_)
  · have ex : x1 = y1 := by simpa using e1
    refine PySem.W.kat_yes (PySem.W.kat_cons (SeqAt.EqAt.int_int x2 u y2 u' prog w _ _ ?_))
    refine PySem.W.kat_go (fun e2 => ?_) (fun e2 => ?_)
    · have ey : x2 = y2 := by simpa using e2
      refine PySem.W.kat_yes (PySem.W.kat_cons (SeqAt.EqAt.int_int x3 r y3 r' prog w _ _ ?_))
      refine PySem.W.kat_go (fun e3 => ?_) (fun e3 => ?_)
      · have ez : x3 = y3 := by simpa using e3
        refine PySem.W.kat_yes (PySem.W.kat_nil ⟨rfl, (decide_eq_false ?_).symm⟩)
        unfold l3
        dsimp only
        omega
      · refine PySem.W.kat_no (PySem.W.kat_one _ _ (PyProof.Rows.lt_int ?_))
        refine (show s = s ∧ decide (x3 < y3) = l3B (x1, x2, x3) (y1, y2, y3) from ⟨rfl, ?_⟩)
        refine decide_eq_decide.mpr ?_
        unfold l3
        dsimp only
        omega
    · have ey : ¬ x2 = y2 := by simpa using e2
      refine PySem.W.kat_no (PySem.W.kat_one _ _ (PyProof.Rows.lt_int ?_))
      refine (show s = s ∧ decide (x2 < y2) = l3B (x1, x2, x3) (y1, y2, y3) from ⟨rfl, ?_⟩)
      refine decide_eq_decide.mpr ?_
      unfold l3
      dsimp only
      omega
  · have ex : ¬ x1 = y1 := by simpa using e1
    refine PySem.W.kat_no (oneLt_int ⟨rfl, ?_⟩)
    refine decide_eq_decide.mpr ?_
    unfold l3
    dsimp only
    omega
theorem firsts3 {h : Heap} {k : Value → I3} : ∀ {vs : List Value}, (∀ v ∈ vs, IsTrip h v (k v)) → ∃ fs : List Value, PySem.W.KatTups h vs fs ∧ fs.length = vs.length ∧ ∀ f ∈ fs, ∃ x t, f = Value.int x t
  | [], _ => ⟨[], PySem.W.KatTups.nil, rfl, fun _ hm => by simp at hm⟩
  | v :: vs, hp => by
    obtain ⟨fs, h1, h2, h3⟩ := firsts3 (k := k) (vs := vs) fun v' hm => hp v' (List.mem_cons_of_mem _ hm)
    obtain ⟨a, o, t, u, r, n, e, ho, hc, hd⟩ := hp v (List.mem_cons_self ..)
    generalize k v = z at hd
    subst e
    refine ⟨.int z.1 t :: fs, PySem.W.KatTups.cons ho hc hd rfl h1, by rw [List.length_cons, List.length_cons, h2], fun f hm => ?_⟩
    rcases List.mem_cons.mp hm with rfl | hm
    · exact ⟨z.1, t, rfl⟩
    · exact h3 f hm
theorem trips_sortable {a : Addr} {vs : List Value} {k : Value → I3} (h0 : 0 < vs.length) (hp : ∀ v ∈ vs, IsTrip s.heap v (k v)) (ha : ∀ o, s.heap.get? a = some o → o.cls ≠ .type "tuple") : SrtO.SortableO prog w A s a vs fun v u => l3B (k v) (k u) := by
  intro h' keep
  have hp' : ∀ v ∈ vs, IsTrip h' v (k v) := fun v hm => (hp v hm).keeps fun b o e c => keep b o (fun z => by subst z; exact ha o e c) e
  obtain ⟨fs, h1, h2, h3⟩ := firsts3 hp'
  refine ⟨tuples' true, fun Q E hq => ?_, trip_cmp hp'⟩
  refine PySem.W.kat_kind (T := .type "int") h1 (by omega) (fun f hm => ?_) (by rfl) ?_
  · obtain ⟨x, t, rfl⟩ := h3 f hm
    exact PySem.W.Looks.now
  · have e : (Value.type "int" != Value.type "tuple") = true := by first | decide +kernel | rfl | decide
    rw [e]
    exact hq
theorem sorted_trips {l : Addr} {vs : List Value} {k : Value → I3} {Q : Value → Shared → Prop} (hl : s.heap.IsList l vs.toArray) (hz : vs.length ≤ sizeLine) (hp : ∀ v ∈ vs, IsTrip s.heap v (k v))
    (h : ∀ (h' : Heap) (d : Addr) (out : List Value), SrtO.Srtd (fun v u => l3B (k v) (k u)) out → SrtO.Stb (fun v u => l3B (k v) (k u)) out vs → (∀ b o, s.heap.get? b = some o → h'.get? b = some o) → s.heap.objs.size ≤ d → (∃ n, h'.get? d = some (seqObj "list" out.toArray n)) → Q (.ref d) { s with heap := h' }) :
    wpAny (model prog w) A (call (.builtin "sorted") [.ref l]) Q E s := by
  refine SrtO.sorted_ord (swo_l3 k) hl hz (fun h2 h₁ a ha kk => ?_) fun out hs hb => ?_
  · refine trips_sortable (s := { s with heap := h₁ }) (by omega) (fun v hm => (hp v hm).keeps fun b o e _ => (kk b o e).2) fun o e => ?_
    have e' : some o = some (seqObj "list" vs.toArray 0) := e.symm.trans ha
    cases e'
    intro c
    exact absurd (Value.type.inj c) (by decide)
  · exact h _ _ out hs hb (fun b o e => sortedAll_old e) (Nat.le_succ _) (sortedAll_at s.heap vs out.toArray)
end
abbrev t3D (p : I3) : PyData := .tuple [.int p.1, .int p.2.1, .int p.2.2]
abbrev t3 (p : I3) : SD := .pu (t3D p)
abbrev TrH (H : Hp) (as : List Addr) (ps : List I3) : Prop := Paired (fun (a : Addr) (p : I3) => H a = some (HO.tup [V.int p.1, V.int p.2.1, V.int p.2.2])) as ps
def trA (H : Hp) (a : Addr) : I3 := match H a with
  | some (.tup [.int i, .int j, .int k]) => (i, j, k)
  | _ => (0, 0, 0)
def trV (H : Hp) : Value → I3
  | .ref a => trA H a
  | _ => (0, 0, 0)
theorem trA_of {H : Hp} {a : Addr} {p : I3} (h : H a = some (HO.tup [V.int p.1, V.int p.2.1, V.int p.2.2])) : trA H a = p := by
  unfold trA
  rw [h]
theorem trH_map {H : Hp} : ∀ {as : List Addr} {ps : List I3}, TrH H as ps → as.map (trA H) = ps
  | _, _, .nil => rfl
  | _, _, .cons h t => by rw [List.map_cons, trA_of h, trH_map t]
theorem trH_mem {H : Hp} : ∀ {as : List Addr} {ps : List I3}, TrH H as ps → ∀ a ∈ as, H a = some (HO.tup [V.int (trA H a).1, V.int (trA H a).2.1, V.int (trA H a).2.2])
  | _, _, .cons h t, a, ha => by
    rcases List.mem_cons.mp ha with e | e
    · rw [e, trA_of h]
      exact h
    · exact trH_mem t a e
section
variable {X : Cx} {ρ : List SD} {M : Mem} {Q : Kn} {pos : Pos} {e : Expr}
def rSortT : List V → Hp → VK → Prop := fun vs H Q => ∃ (l : Addr) (as : List Addr) (ps : List I3), vs = [.ref l] ∧ H l = some (.lst (as.map V.ref)) ∧ TrH H as ps ∧
  ∀ (bs : List Addr) (d : Addr), bs.Perm as → (bs.map (trA H)).Pairwise (fun p q => ¬ l3 q p) → H d = none → Q (.ref d) (upd H d (.lst (bs.map V.ref)))
theorem cr_sortT : CallR X (.builtin "sorted") rSortT := by
  intro pins s σ H vs us Q I r h
  obtain ⟨l, as, ps, rfl, hl, hp, q⟩ := h
  rw [Vals.ref1 r]
  obtain ⟨hz, its, n, g1, g2, g3⟩ := I.lstM hl
  have eits := refs_of g1
  subst eits
  have L : LAt s.heap l (as.map Value.ref) := ⟨n, g3⟩
  have zz : (as.map Value.ref).length ≤ sizeLine := by
    rw [List.length_map]
    rw [List.length_map] at hz
    exact hz
  refine sorted_trips (k := trV H) L.isList zz (fun v hv => ?_) fun h' d out b1 b2 kp hd hat => ?_
  · obtain ⟨a, ha, rfl⟩ := List.mem_map.mp hv
    obtain ⟨z, its2, r2, o, ho, hc, m, hd⟩ := I.hok _ _ (trH_mem hp a ha)
    cases r2 with
    | cons r3 r4 =>
      cases r4 with
      | cons r4 r5 =>
        cases r5 with
        | cons r5 r6 =>
          cases r6
          obtain ⟨t1, rfl⟩ := r3
          obtain ⟨t2, rfl⟩ := r4
          obtain ⟨t3, rfl⟩ := r5
          exact ⟨a, o, t1, t2, t3, m, rfl, ho, hc, hd⟩
  · obtain ⟨bs, rfl, pb⟩ := refs_perm b2.perm
    obtain ⟨c, hc⟩ := hat
    have lb : (bs.map V.ref).length ≤ sizeLine := by
      rw [List.length_map, pb.length_eq]
      rw [List.length_map] at zz
      exact zz
    refine ⟨.ref d, upd H d (.lst (bs.map V.ref)), I.laid (t' := s.toks) kp hd ⟨lb, bs.map Value.ref, c, vals_refs bs, hc⟩, rfl, q bs d pb ?_ (I.hok.fresh hd)⟩
    rw [List.pairwise_map]
    rw [SrtO.Srtd, List.pairwise_map] at b1
    exact b1.imp fun {a b} h => of_decide_eq_false h
theorem trips_in {F H : Hp} (fh : Same F H) : ∀ {vs : List V} {ps : List I3}, Paired (VOk F) vs (ps.map t3) → ∃ as, vs = as.map V.ref ∧ TrH H as ps ∧ TrH F as ps
  | _, [], .nil => ⟨[], rfl, .nil, .nil⟩
  | _, p :: ps, .cons h t => by
    obtain ⟨as, e, a1, a2⟩ := trips_in fh t
    have h : Dt F _ (t3D p) := h
    cases h with
    | tup h1 h2 =>
      cases h2 with
      | cons x y =>
        cases x
        cases y with
        | cons x y =>
          cases x
          cases y with
          | cons x y =>
            cases x
            cases y
            subst e
            exact ⟨_ :: as, rfl, .cons (fh _ _ h1) a1, .cons h1 a2⟩
theorem trips_out {F : Hp} : ∀ {bs : List Addr} {qs : List I3}, TrH F bs qs → Paired (VOk F) (bs.map V.ref) (qs.map t3)
  | _, _, .nil => .nil
  | _, _, .cons h t => .cons (show Dt F (.ref _) (t3D _) from .tup h (.cons (.int _) (.cons (.int _) (.cons (.int _) .nil)))) (trips_out t)
/-- sorted(xs) of triples of ints: a new list -/
theorem gsortedT {p : Pos} (hm : X.mg "sorted" = none) (h : GE X ρ M e fun x M1 => ∃ ps : List I3, LV M1 x (ps.map t3) ∧ ∀ (l : Addr) (qs : List I3), qs.Perm ps → qs.Pairwise (fun p q => ¬ l3 q p) → Q (.rf (.ref l)) ((l, .lst (qs.map t3)) :: M1)) (hg : Gl X "sorted" := by rfl) (he : starEach [e] X.env = [(false, eval e X.env)] := by rfl) : GE X ρ M (.Call (.Name "sorted" p) [e] [] pos) Q :=
  gcb cr_sortT hm PyProof.Rows.boot_sorted (acons (h.mono fun x M1 ⟨ps, lv, q⟩ => anil fun B F H vs Q' W hvs s => by
    obtain ⟨v, rfl, hv⟩ := p1 hvs
    obtain ⟨p, ws, rfl, hp, pr⟩ := lv.at W hv
    obtain ⟨as, rfl, a1, a2⟩ := trips_in W.fh pr
    refine ⟨p, as, ps, rfl, hp, a1, fun bs d h1 h3 hd => ?_⟩
    have same : ∀ a ∈ bs, F a = some (HO.tup [V.int (trA H a).1, V.int (trA H a).2.1, V.int (trA H a).2.2]) := fun a ha => by
      have ha := h1.mem_iff.mp ha
      have e1 := trH_mem a2 a ha
      have e2 := trH_mem a1 a ha
      have e3 := W.fh _ _ e1
      rw [e2] at e3
      rw [e1, ← e3]
    have hb : ∀ {l : List Addr}, (∀ a ∈ l, F a = some (HO.tup [V.int (trA H a).1, V.int (trA H a).2.1, V.int (trA H a).2.2])) → TrH F l (l.map (trA H)) := by
      intro l
      induction l with
      | nil => exact fun _ => .nil
      | cons a l ih => exact fun h => .cons (h a List.mem_cons_self) (ih fun b hb => h b (List.mem_cons_of_mem _ hb))
    have pm : (bs.map (trA H)).Perm ps := by
      rw [← trH_map a1]
      exact h1.map _
    exact s _ _ _ F _ (q d _ pm h3) (W.newl hd (trips_out (hb same))) (Same.refl F) rfl) he) hg (he := he)
end
end G

namespace G
open PySem PySem.Spec PyProof.Rows L2
/-! ### {e for x in xs for y in ys if ..}: ints -/
abbrev sc2 (elt t0 i0 t1 i1 : Expr) (ifs1 : List Expr) (scope : Scope) (pos : Pos) : Expr := .SetComp elt [⟨t0, i0, [], 0⟩, ⟨t1, i1, ifs1, 0⟩] scope pos
section
variable {elt t0 i0 t1 i1 : Expr} {ifs1 : List Expr} {scope : Scope} {pos : Pos} {it acc : Value} {env : Env}
theorem sc_turn0 : compTurn (sc2 elt t0 i0 t1 i1 ifs1 scope pos) 0 it acc env = (do
    standAt i0.pos
    match ← pyNext it with
    | none => pure (.done .next)
    | some v => do
      letOwnedTupleGo t0 it v
      assign t0 env v
      let x ← eval i1 env
      standAt i1.pos
      let x ← foldedSetIterable i1 env x
      let _ ← runOwn (.compStart (sc2 elt t0 i0 t1 i1 ifs1 scope pos) 1 (← holding [x] (pyIter x)) acc env) env
      again (.compLoop (sc2 elt t0 i0 t1 i1 ifs1 scope pos) 0 it acc env)) := by rfl
theorem sc_turn1 : compTurn (sc2 elt t0 i0 t1 i1 ifs1 scope pos) 1 it acc env = (do
    standAt i1.pos
    match ← pyNext it with
    | none => pure (.done .next)
    | some v => do
      letOwnedTupleGo t1 it v
      assign t1 env v
      let ok ← forIn ifs1 true fun c r => if r = true then do let ok ← isTrue c env (eval c env); pure (ForInStep.yield ok) else pure (ForInStep.yield r)
      if ok then
        (do let v ← eval elt env; standAt elt.pos; let _ ← call (.builtin "set.add") [acc, v])
      again (.compLoop (sc2 elt t0 i0 t1 i1 ifs1 scope pos) 1 it acc env)) := by rfl
end
section
variable {Y : Cx} {pins : List (Addr × Obj)} {σ : L2.St} {H : Hp} {s : Shared} {i : Nat} {tg : Expr} {J : It} {fp : List Addr} {it : Addr} {tn : Nat → Heap → Prop} {g : TG}
/-- one turn of a walk: at its end, or an item that is stored -/
theorem turnT {α : Type} {A0 : Sem α} {go : Sem α} {R : α → Shared → Prop} {Ex : Value → Shared → Prop} (hc : Y.calm = true) (T : Turn Y.prog Y.w Y.K tg J fp it tn) (pg : PG Y tg g) (hx : Y.xe = fun _ _ => False)
    (I : Inv Y pins σ H s) (hf : ∀ b ∈ fp, FpOk Y pins H b) (st : tn i s.heap)
    (h : (J.stop i H ∧ ∀ s', Inv Y pins σ H s' → wpAny (model Y.prog Y.w) Y.A A0 R Ex s') ∨
      (J.go i H ∧ ∃ G2 : L2.St → Hp → Prop, (∀ x H', J.yld i H x H' → g x σ H' G2) ∧ ∀ σ2 H2 (s7 s2 : Shared), G2 σ2 H2 → tn (i + 1) s7.heap → Inv Y (pins ++ pinsAt fp s7.heap) σ2 H2 s2 → wpAny (model Y.prog Y.w) Y.A go R Ex s2)) :
    wpAny (model Y.prog Y.w) Y.A (do
      match ← pyNext (.ref it) with
      | none => A0
      | some v => do
        letOwnedTupleGo tg (.ref it) v
        assign tg Y.env v
        go) R Ex s := by
  rcases h with ⟨stop, h⟩ | ⟨gn, G2, h, h'⟩
  · refine wpAny_bind (thnF (T.done Y rfl rfl rfl hc i pins s σ H (fun _ _ => False) I hf st stop) fun r s1 ⟨hr, I1⟩ => ?_)
    subst hr
    exact h s1 I1
  · refine wpAny_bind (thnF (T.item Y rfl rfl rfl hc i pins s σ H (fun _ _ => False) I hf st gn) fun r s1 ⟨u, hr, h1⟩ => ?_)
    subst hr
    refine wpAny_bind (thnF h1 fun _ s2 ⟨x, H2, I2, r2, y2, st2, n2⟩ => ?_)
    have I3 := I2.pinned (fun b hb => ⟨n2 b hb, (hf b hb).2⟩) (T.obj _ _ st2)
    have run := pg.run _ s2 σ H2 x u _ I3 r2 (h x H2 y2)
    rw [hx] at run
    exact wpAny_bind (thnF run fun _ s3 ⟨σ3, H3, I4, q⟩ => h' σ3 H3 s2 s3 q st2 I4)
/-- behind the turn: the walk's own objects are as they were -/
theorem turn_back {s7 s2 : Shared} {σ2 : L2.St} {H2 : Hp} (T : Turn Y.prog Y.w Y.K tg J fp it tn) (st : tn i s7.heap) (I : Inv Y (pins ++ pinsAt fp s7.heap) σ2 H2 s2) : tn i s2.heap ∧ ∀ b ∈ fp, H2 b = none := by
  have keep : ∀ b ∈ fp, ∀ o, s7.heap.get? b = some o → s2.heap.get? b = some o ∧ H2 b = none := fun b hb o e => by
    have z := I.pin (b, o) (List.mem_append_right _ (List.mem_append_right _ (mem_pinsAt hb e)))
    exact ⟨z.1, z.2.1⟩
  refine ⟨T.keep _ _ _ st fun b hb o e => (keep b hb o e).1, fun b hb => ?_⟩
  obtain ⟨o, e, _⟩ := T.obj _ _ st b hb
  exact (keep b hb o e).2
end

/-- what the inner clause's items ask of the set at D -/
def AddK (w : World) (D : Addr) (Nx : Hp → Prop) : VK := fun y H => ∃ (k : Int) (S : Int → Bool) (n : Nat), y = .int k ∧ H D = some (SetO w D S n) ∧ n + 1 < scanBound ∧ Nx (upd H D (SetO w D (fun j => S j || decide (j = k)) (if S k = true then n else n + 1)))
/-- the inner walk -/
def InW (w : World) (D : Addr) (g1 : TG) (tt1 : TT) (te : TE) (vs1 : List Nat) (σ2 : L2.St) (Nx : Hp → Prop) : It → Hp → Prop := fun J1 H4 => ∃ W1 : Nat → Nat → Hp → Prop, (∃ m, W1 0 m H4) ∧ ∀ j k H, W1 j k H → (J1.stop j H ∧ Nx H) ∨ (J1.go j H ∧ ∃ Nx1 : Hp → Prop, (∀ H', Nx1 H' → ∃ k', k' < k ∧ W1 (j + 1) k' H') ∧
  ∀ x H', J1.yld j H x H' → g1 x (wipe σ2 vs1) H' fun σ3 H5 => wipe σ3 vs1 = wipe σ2 vs1 ∧ tt1 σ3 H5 fun b H6 => if b = true then te σ3 H6 (AddK w D Nx1) else Nx1 H6)
/-- the outer walk -/
def OutW (w : World) (D : Addr) (g : TG) (wi1 : TI) (g1 : TG) (tt1 : TT) (te : TE) (vs vs1 : List Nat) (σ : L2.St) (Fin : Hp → Prop) (J : It) (W : Nat → Nat → Hp → Prop) : Prop := ∀ i m H, W i m H → (J.stop i H ∧ Fin H) ∨ (J.go i H ∧ ∃ Nx : Hp → Prop, (∀ H', Nx H' → ∃ m', m' < m ∧ W (i + 1) m' H') ∧
  ∀ x H', J.yld i H x H' → g x (wipe σ vs) H' fun σ2 H2 => wipe σ2 vs = wipe σ vs ∧ wi1 σ2 H2 (InW w D g1 tt1 te vs1 σ2 Nx))
section
variable {Y : Cx} {pins : List (Addr × Obj)} {σ σ2 : L2.St} {H : Hp} {s : Shared} {i : Nat} {elt t0 i0 t1 i1 : Expr} {ifs1 : List Expr} {scope : Scope} {pos : Pos} {D : Addr} {J J1 : It} {fp fp1 : List Addr} {it it1 : Addr} {tn tn1 : Nat → Heap → Prop} {g g1 : TG} {wi1 : TI} {tt1 : TT} {te : TE} {vs vs1 : List Nat} {R : Result → Shared → Prop}
theorem sc_add {y : V} {u : Value} {Nx : Hp → Prop} {Q : Shared → Prop} (I : Inv Y pins σ H s) (r : RelV y u) (h : AddK Y.w D Nx y H) (hq : ∀ s' H', Inv Y pins σ H' s' → Nx H' → Q s') : wpAny (model Y.prog Y.w) Y.A (call (.builtin "set.add") [.ref D, u]) (fun _ s' => Q s') Y.xe s := by
  obtain ⟨k, S, n, rfl, hD, hn, nx⟩ := h
  exact thn (mt_sadd pins s σ H (.ref D) [.int k] (.ref D) [u] (fun _ H' => Nx H') I rfl (.cons r .nil) ⟨D, k, S, n, rfl, rfl, hD, hn, nx⟩) fun _ s' ⟨_, H', I', _, q⟩ => hq s' H' I' q
/-- the loop of the inner clause -/
theorem sc_inner (hc : Y.calm = true) (hx : Y.xe = fun _ _ => False) (T1 : Turn Y.prog Y.w Y.K t1 J1 fp1 it1 tn1) (pg1 : PG Y t1 g1) (pt1 : PTs Y ifs1 tt1) (pe : PE Y elt te) {Nx : Hp → Prop} {W1 : Nat → Nat → Hp → Prop}
    (walk : ∀ j k H, W1 j k H → (J1.stop j H ∧ Nx H) ∨ (J1.go j H ∧ ∃ Nx1 : Hp → Prop, (∀ H', Nx1 H' → ∃ k', k' < k ∧ W1 (j + 1) k' H') ∧ ∀ x H', J1.yld j H x H' → g1 x (wipe σ2 vs1) H' fun σ3 H5 => wipe σ3 vs1 = wipe σ2 vs1 ∧ tt1 σ3 H5 fun b H6 => if b = true then te σ3 H6 (AddK Y.w D Nx1) else Nx1 H6))
    (ok : ∀ (b : Addr), b ∈ fp1 → ∀ H' : Hp, H' b = none → FpOk Y pins H' b) (fin : ∀ s' H', Inv Y pins (wipe σ2 vs1) H' s' → Nx H' → R (.ok .next) s') :
    ∀ m j H s, W1 j m H → Inv Y pins (wipe σ2 vs1) H s → tn1 j s.heap → (∀ b ∈ fp1, H b = none) → codeAny (model Y.prog Y.w) Y.A (.compLoop (sc2 elt t0 i0 t1 i1 ifs1 scope pos) 1 (.ref it1) (.ref D) Y.env) R s := by
  intro m j H s w0 I0 st0 n0
  refine codeAny_loop rfl (fun n s' => ∃ j H', Inv Y pins (wipe σ2 vs1) H' s' ∧ tn1 j s'.heap ∧ (∀ b ∈ fp1, H' b = none) ∧ W1 j n H') (fun n s5 hI => ?_) m ⟨j, H, I0, st0, n0, w0⟩
  obtain ⟨j, H5, I5, st5, n5, w5⟩ := hI
  show wpAny _ Y.A ((compTurn (sc2 elt t0 i0 t1 i1 ifs1 scope pos) 1 (.ref it1) (.ref D) Y.env).onRaise (fun x => do noteFrame x Y.env; theTreesLotGoes x)) _ _ s5
  refine wpAny_noted ?_
  rw [sc_turn1]
  refine wpAny_bind (wpAny_standAt (turnT hc T1 pg1 hx I5 (fun b hb => ok b hb _ (n5 b hb)) st5 ?_))
  rcases walk j n H5 w5 with ⟨stop, nx⟩ | ⟨gn, Nx1, hN, step⟩
  · exact .inl ⟨stop, fun s' I' => wpAny_pure (fin s' H5 I' nx)⟩
  · refine .inr ⟨gn, _, step, fun σ3 H3 s7 s8 ⟨hw, q⟩ st7 I8 => ?_⟩
    have over : ∀ {s' : Shared} {H' : Hp}, Inv Y (pins ++ pinsAt fp1 s7.heap) σ3 H' s' → Nx1 H' → ∃ m, m < n ∧ ∃ j H', Inv Y pins (wipe σ2 vs1) H' s' ∧ tn1 j s'.heap ∧ (∀ b ∈ fp1, H' b = none) ∧ W1 j m H' := by
      intro s' H' I' nx
      obtain ⟨k', hk, w'⟩ := hN H' nx
      obtain ⟨b1, b2⟩ := turn_back T1 st7 I'
      refine ⟨k', hk, j + 1, H', I'.unpinned.weak ?_ (fun z v e => ?_), b1, b2, w'⟩
      · rw [← hw, wipe_length]
      · rw [← hw] at e
        exact (wipe_some e).1
    have tests := pt1.run _ s8 σ3 H3 _ I8 q
    rw [hx] at tests
    refine wpAny_bind (thnF tests fun b s9 ⟨H9, I9, q9⟩ => ?_)
    cases b with
    | false =>
      rw [if_neg Bool.false_ne_true] at q9
      exact wpAny_pure ⟨rfl, over I9 q9⟩
    | true =>
      rw [if_pos rfl] at q9
      have ev := pe.run _ s9 σ3 H9 _ I9 q9
      rw [hx] at ev
      refine wpAny_bind (wpAny_bind (thnF ev fun u s10 ⟨y, H10, I10, ry, q10⟩ => wpAny_bind (wpAny_standAt ?_)))
      have ad := sc_add (Q := fun s' => ∃ m, m < n ∧ ∃ j H', Inv Y pins (wipe σ2 vs1) H' s' ∧ tn1 j s'.heap ∧ (∀ b ∈ fp1, H' b = none) ∧ W1 j m H') I10 ry q10 fun s' H' I' nx => over I' nx
      rw [hx] at ad
      exact wpAny_bind (thnF ad fun _ s11 q11 => wpAny_pure (wpAny_pure ⟨rfl, q11⟩))
/-- a clause's start: the source's iterator, once more or not -/
theorem sc_start {it : Value} {acc : Value} {env : Env} {P : Program} {w : World} {A : Around} {c : Nat} {iter : Expr} (hc : c = 0 ∧ iter = i0 ∨ c = 1 ∧ iter = i1) (h0 : codeAny (model P w) A (.compLoop (sc2 elt t0 i0 t1 i1 ifs1 scope pos) c it acc env) R s)
    (h : wpAny (model P w) A (pyIter it) (fun it' s' => codeAny (model P w) A (.compLoop (sc2 elt t0 i0 t1 i1 ifs1 scope pos) c it' acc env) R s') (notedBy (model P w) A env fun x s' => R (.error x) s') s) :
    codeAny (model P w) A (.compStart (sc2 elt t0 i0 t1 i1 ifs1 scope pos) c it acc env) R s := by
  refine codeAny_of_tree (show wpAny _ _ ((compStart (sc2 elt t0 i0 t1 i1 ifs1 scope pos) c it acc env).onRaise (fun x => do noteFrame x env; standAt theWindowsPlace)) _ _ s from wpAny_notedAt ?_)
  have again' : ∀ {p : Pos}, wpAny (model P w) A (do standAt p; let it' ← pyIter it; again (.compLoop (sc2 elt t0 i0 t1 i1 ifs1 scope pos) c it' acc env)) (fun fin s' => match fin with
      | .done f => R (.ok f) s'
      | .again c' => c'.quiet = true ∧ codeAny (model P w) A c' R s') (notedBy (model P w) A env fun x s' => R (.error x) s') s := fun {p} =>
    wpAny_bind (wpAny_standAt (wpAny_bind (thn h fun it' s' q => wpAny_pure ⟨rfl, q⟩)))
  have stay : wpAny (model P w) A (again (.compLoop (sc2 elt t0 i0 t1 i1 ifs1 scope pos) c it acc env)) (fun fin s' => match fin with
      | .done f => R (.ok f) s'
      | .again c' => c'.quiet = true ∧ codeAny (model P w) A c' R s') (notedBy (model P w) A env fun x s' => R (.error x) s') s := wpAny_pure ⟨rfl, h0⟩
  unfold compStart
  rcases hc with ⟨rfl, rfl⟩ | ⟨rfl, rfl⟩
  · refine (show wpAny _ A (ask >>= _) _ _ s from wpAny_bind (wpAny_askSetting (wpAny_ite ?_)))
    split
    · exact stay
    · exact wpAny_bind (wpAny_rule again')
  · refine (show wpAny _ A (ask >>= _) _ _ s from wpAny_bind (wpAny_askSetting (wpAny_ite ?_)))
    split
    · exact stay
    · exact wpAny_bind (wpAny_rule again')
/-- the loop of the outer clause -/
theorem sc_outer {W : Nat → Nat → Hp → Prop} {Fin : Hp → Prop} (hc : Y.calm = true) (hx : Y.xe = fun _ _ => False) (T : Turn Y.prog Y.w Y.K t0 J fp it tn) (pg : PG Y t0 g) (pi1 : PI Y t1 i1 wi1) (pg1 : PG Y t1 g1) (pt1 : PTs Y ifs1 tt1) (pe : PE Y elt te)
    (hs1 : ∀ env x, foldedSetIterable i1 env x = pure x) (hv : ∀ i ∈ vs1, i ∈ vs) (walk : OutW Y.w D g wi1 g1 tt1 te vs vs1 σ Fin J W) (ok : ∀ b ∈ fp, ∀ H' : Hp, H' b = none → FpOk Y pins H' b) (fin : ∀ s' H', Inv Y pins (wipe σ vs) H' s' → Fin H' → R (.ok .next) s') :
    ∀ m i H s, W i m H → Inv Y pins (wipe σ vs) H s → tn i s.heap → (∀ b ∈ fp, H b = none) → codeAny (model Y.prog Y.w) Y.A (.compLoop (sc2 elt t0 i0 t1 i1 ifs1 scope pos) 0 (.ref it) (.ref D) Y.env) R s := by
  intro m i H s w0 I0 st0 n0
  refine codeAny_loop rfl (fun n s' => ∃ j H', Inv Y pins (wipe σ vs) H' s' ∧ tn j s'.heap ∧ (∀ b ∈ fp, H' b = none) ∧ W j n H') (fun n s5 hI => ?_) m ⟨i, H, I0, st0, n0, w0⟩
  obtain ⟨j, H5, I5, st5, n5, w5⟩ := hI
  show wpAny _ Y.A ((compTurn (sc2 elt t0 i0 t1 i1 ifs1 scope pos) 0 (.ref it) (.ref D) Y.env).onRaise (fun x => do noteFrame x Y.env; theTreesLotGoes x)) _ _ s5
  refine wpAny_noted ?_
  rw [sc_turn0]
  refine wpAny_bind (wpAny_standAt (turnT hc T pg hx I5 (fun b hb => ok b hb _ (n5 b hb)) st5 ?_))
  rcases walk j n H5 w5 with ⟨stop, q⟩ | ⟨gn, Nx, hN, step⟩
  · exact .inl ⟨stop, fun s' I' => wpAny_pure (fin s' H5 I' q)⟩
  · refine .inr ⟨gn, _, step, fun σ3 H3 s7 s8 ⟨hw, q⟩ st7 I8 => ?_⟩
    have src := pi1.run _ s8 σ3 H3 _ I8 q
    rw [hx] at src
    refine wpAny_bind (thnF src fun x s9 hx9 => wpAny_bind (wpAny_standAt (wpAny_bind (wpAny_of_eq (hs1 _ x) (wpAny_bind (wpAny_holding (thnF hx9 fun itv s10 h10 => ?_)))))))
    obtain ⟨it1, fp1, tn1, J1, H10, rfl, I10, T1, st10, f10, W1, ⟨m1, w1⟩, walk1⟩ := h10
    refine wpAny_bind (wpAny_runOwn ?_)
    rw [Around.mark_none]
    have inner := sc_inner (i0 := i0) (scope := scope) (pos := pos) (t0 := t0) (i1 := i1) (R := fun r s' => match r with
        | .ok _ => ∃ m, m < n ∧ ∃ j H', Inv Y pins (wipe σ vs) H' s' ∧ tn j s'.heap ∧ (∀ b ∈ fp, H' b = none) ∧ W j m H'
        | .error _ => False) hc hx T1 pg1 pt1 pe walk1 (fun b hb H' hn => ⟨hn, (f10 b hb).2⟩) (fun s' H' I' nx => by
      obtain ⟨m', hm, w'⟩ := hN H' nx
      obtain ⟨b1, b2⟩ := turn_back T st7 I'
      refine ⟨m', hm, j + 1, H', I'.unpinned.weak ?_ (fun z v e => ?_), b1, b2, w'⟩
      · rw [wipe_length, wipe_length, ← wipe_length σ3 vs, hw, wipe_length]
      · rw [← hw] at e
        obtain ⟨e1, e2⟩ := wipe_some e
        rw [wipe_out fun hz => e2 (hv z hz)]
        exact e1) m1 0 H10 s10 w1 (I10.weak (wipe_length _ _) fun z v e => (wipe_some e).1) st10 fun b hb => (f10 b hb).1
    refine codeAny_mono (sc_start (.inr ⟨rfl, rfl⟩) inner (T1.self Y.A 0 _ _ _ st10 inner)) fun r s' hr => ?_
    match r, hr with
    | .ok _, hr => exact wpAny_pure ⟨rfl, hr⟩
    | .error _, hr => exact False.elim hr
end
section
variable {X : Cx}
/-- the whole: D is the new set -/
def tSc2 (w : World) (wi : TI) (g : TG) (wi1 : TI) (g1 : TG) (tt1 : TT) (te : TE) (vs vs1 : List Nat) : TE := fun σ H Q => wi σ H fun J H1 => ∀ D, H1 D = none → ∃ W : Nat → Nat → Hp → Prop, (∃ m, W 0 m (upd H1 D (SetO w D (fun _ => false) 0))) ∧ OutW w D g wi1 g1 tt1 te vs vs1 σ (fun H' => Q (.ref D) H') J W
theorem pe_sc2 {elt tg iter tg1 iter1 : Expr} {ifs1 : List Expr} {scope : Scope} {own : List (Str × Nat)} {vs1 : List Nat} {pos : Pos} {wi wi1 : TI} {g g1 : TG} {tt1 : TT} {te : TE} (hc : X.calm = true) (hN : X.N.Nodup) (hi : PI X tg iter wi) (ok : BlkOk X.N X.env.scope scope own) (hv : ∀ i ∈ vs1, i ∈ own.map (·.2))
    (hb : ∀ Y : Cx, Blk X scope Y → PG Y tg g ∧ PI Y tg1 iter1 wi1 ∧ PG Y tg1 g1 ∧ PTs Y ifs1 tt1 ∧ PE Y elt te)
    (hs : ∀ x, foldedSetIterable iter X.env x = pure x := by intro _; rfl) (hs1 : ∀ env x, foldedSetIterable iter1 env x = pure x := by intro _ _; rfl) :
    PE X (sc2 elt tg iter tg1 iter1 ifs1 scope pos) (tSc2 X.w wi g wi1 g1 tt1 te (own.map (·.2)) vs1) := by
  refine ⟨fun pins s σ H Q I h => ?_⟩
  rw [PpSet.eval_SetComp]
  have free : ∀ y ∈ scope.names, y.2 = .free → ∃ c, X.env.cells.lookup y.1 = some c := by
    intro y hy e
    rcases ok.free y hy e with z | z
    · exact I.ok.has _ (.inl z)
    · exact I.ok.has _ (.inr z)
  refine wpAny_comprehension_free (use := none) rfl hs (closure_ok free) ok.kind (fun y hy e => by rw [ok.uniq y hy, e]) (thn (hi.run pins s σ H _ I h) fun xv s1 h1 => thn h1 fun itv s2 h2 => ?_)
  obtain ⟨it, fp, tn, J, H2, rfl, I2, T, st2, f2, q⟩ := h2
  refine PpSet.newSet_ok (newEnv_comp ?_)
  have dn : H2 s2.heap.objs.size = none := I2.hok.fresh (Nat.le_refl _)
  obtain ⟨W, ⟨m0, w0⟩, walk⟩ := q _ dn
  obtain ⟨t3, e3⟩ : ∃ t : Shared, t = { s2 with heap := s2.heap.push (nuS X.w) } := ⟨_, rfl⟩
  have I3 : Inv X pins σ (upd H2 s2.heap.objs.size (SetO X.w s2.heap.objs.size (fun _ => false) 0)) t3 := by
    rw [e3]
    exact I2.laid (t' := s2.toks) (fun b o e => Heap.get?_push_of_some _ e) (Nat.le_refl _) (setO_new (setR_fresh X.w))
  have hp3 : t3.heap = s2.heap.push (nuS X.w) := by rw [e3]
  have below : ∀ b ∈ fp, b < s2.heap.objs.size := fun b hb => by
    obtain ⟨o, e, _⟩ := T.obj _ _ st2 b hb
    exact Heap.lt_size e
  have own3 : ∀ b ∈ fp, FpOk X pins (upd H2 s2.heap.objs.size (SetO X.w s2.heap.objs.size (fun _ => false) 0)) b ∧ b < t3.heap.objs.size := fun b hb => by
    refine ⟨⟨?_, (f2 b hb).2⟩, ?_⟩
    · rw [upd_ne (Nat.ne_of_lt (below b hb))]
      exact (f2 b hb).1
    · rw [hp3, Heap.size_push]
      exact Nat.lt_succ_of_lt (below b hb)
  have st3 : tn 0 t3.heap := T.keep _ _ _ st2 fun b _ o e => by
    rw [hp3]
    exact Heap.get?_push_of_some _ e
  have I4 := block_start I3 ok hN own3
  have st4 : tn 0 (pushCells (t3.heap.push { cls := .type "dict", data := .dict #[] }) scope.names) := T.keep _ _ _ st3 fun b _ o e => pushCells_keeps _ _ _ _ (Heap.get?_push_of_some _ e)
  show codeAny _ _ (.compStart (sc2 elt tg iter tg1 iter1 ifs1 scope pos) 0 (.ref it) (.ref s2.heap.objs.size) (compEnvC scope (cellsFrom ((s2.heap.push (nuS X.w)).objs.size + 1) scope.names (cloFrom X.env.cells scope.names [])) (s2.heap.push (nuS X.w)).objs.size X.env))
    (compPost (model X.prog X.w) X.A X.xe none _ (.ref s2.heap.objs.size) (s2.heap.push (nuS X.w)).objs.size) { s2 with heap := pushCells ((s2.heap.push (nuS X.w)).push { cls := .type "dict", data := .dict #[] }) scope.names }
  rw [← hp3]
  have es : ({ s2 with heap := pushCells (t3.heap.push { cls := .type "dict", data := .dict #[] }) scope.names } : Shared) = { t3 with heap := pushCells (t3.heap.push { cls := .type "dict", data := .dict #[] }) scope.names } := by rw [e3]
  rw [es]
  have cl : (compEnvC scope (cellsFrom (t3.heap.objs.size + 1) scope.names (cloFrom X.env.cells scope.names [])) t3.heap.objs.size X.env).locals = t3.heap.objs.size := rfl
  have nf : ∀ b ∈ fp, (upd H2 s2.heap.objs.size (SetO X.w s2.heap.objs.size (fun _ => false) 0)) b = none := fun b hb => (own3 b hb).1.1
  have blk : Blk X scope (X.blk t3 (upd H2 s2.heap.objs.size (SetO X.w s2.heap.objs.size (fun _ => false) 0)) scope (compEnvC scope (cellsFrom (t3.heap.objs.size + 1) scope.names (cloFrom X.env.cells scope.names [])) t3.heap.objs.size X.env) fp) := blk_mk
  generalize compEnvC scope (cellsFrom (t3.heap.objs.size + 1) scope.names (cloFrom X.env.cells scope.names [])) t3.heap.objs.size X.env = ce at I4 cl blk ⊢
  generalize upd H2 s2.heap.objs.size (SetO X.w s2.heap.objs.size (fun _ => false) 0) = H3 at I3 I4 own3 w0 nf blk
  obtain ⟨b1, b2, b3, b4, b5⟩ := hb _ blk
  have loop := sc_outer (Y := X.blk t3 H3 scope ce fp) (R := compPost (model X.prog X.w) X.A X.xe none (EP X pins σ Q) (.ref s2.heap.objs.size) t3.heap.objs.size) (i0 := iter) (scope := scope) (pos := pos) hc rfl T b1 b2 b3 b4 b5 hs1 hv walk (pins := [])
    (fun b hb H' hn => ⟨hn, (I4.ok.exf b hb).1, I4.ok.exfs b hb, .inl hb, fun x c e => (I4.ok.exf b hb).2 x c e, fun p hp => absurd (show p ∈ ([] : List (Addr × Obj)) ++ [] from hp) (by simp)⟩) (fun s' H' I' qq => by
    have I7 : Inv X pins σ H' s' := I3.call' (ch := fp) I'.os I'.base I'.hok I'.bare fun b hb => let z := (own3 b hb).1.2; ⟨z.2.2.1, z.1, z.2.2.2.1, z.2.2.2.2⟩
    have nC : H' t3.heap.objs.size = none := by
      have z : H' ce.locals = none := I'.free
      rwa [cl] at z
    obtain ⟨m, hn, _⟩ := I'.loc
    have hn : s'.heap.Ns ce.locals m := hn
    rw [cl] at hn
    obtain ⟨g0, g1, g3, g4, g5⟩ := I3.fpOk (Nat.le_refl _) nC
    refine ⟨m, hn, fun h'' sb => ⟨.ref _, H', I7.turned (t' := s'.toks) (fun b o hb e => (sb.2 b hb).trans e) g0 g1 g4 g5.1 g5.2, rfl, qq⟩⟩) m0 0 H3 _ w0 I4 st4 nf
  exact sc_start (.inl ⟨rfl, rfl⟩) loop (T.self X.A 0 _ _ _ st4 loop)
end
end G

namespace G
open PySem PySem.Spec PyProof.Rows L2
/-! ### sorted({..}) over data -/
section
variable {B B2 : Bs} {F F1 F2 H H1 H2 : Hp} {M M1 : Mem} {D : Addr} {w : World} {acc : List Int}
/-- the world with one object more that may change: D -/
abbrev withD (F H : Hp) (M : Mem) (D : Addr) (o : HO) : Bs := ⟨upd H D o, fun a => a ∈ M.map (·.1) ∨ a = D, F⟩
theorem withD_back {o : HO} (W : Wd B F1 H1 M1) (hd : H1 D = none) (W2 : Wd (withD F1 H1 M1 D o) F2 H2 M1) : Wd B F2 H2 M1 where
  fh := W2.fh
  f0 := fun a u e => W2.f0 a u (W.f0 a u e)
  fnew := fun a u e => by
    rcases W2.fnew a u e with (q | q) | q | q | q
    · exact W.fnew a u q
    · exact .inl (.inr q)
    · have q : upd H1 D o a = none := q
      by_cases z : a = D
      · rw [z]
        exact .inr (.inl (W.dom _ hd))
      · rw [upd_ne z] at q
        exact .inr (.inl (W.dom _ q))
    · obtain ⟨p, hp, e⟩ := List.mem_map.mp q
      subst e
      exact .inr (W.new p hp)
    · rw [q]
      exact .inr (.inl (W.dom _ hd))
  keep := fun a u e n => by
    have e1 := W.keep a u e n
    have ne : a ≠ D := ne_of_none e1 hd
    refine W2.keep a u (show upd H1 D o a = some u by rw [upd_ne ne]; exact e1) fun z => ?_
    rcases z with z | z
    · obtain ⟨p, hp, ep⟩ := List.mem_map.mp z
      rcases W.new p hp with y | y
      · rw [ep, e] at y
        cases y
      · rw [ep] at y
        exact n y
    · exact ne z
  dom := fun a e => by
    have q : upd H1 D o a = none := W2.dom a e
    by_cases z : a = D
    · rw [z]
      exact W.dom _ hd
    · rw [upd_ne z] at q
      exact W.dom _ q
  mem := W2.mem
  nd := W2.nd
  new := W.new
theorem withD_start {o : HO} (W : Wd B F1 H1 M1) (hd : H1 D = none) : Wd (withD F1 H1 M1 D o) F1 (upd H1 D o) M1 := by
  have W2 := W.other (o := o) hd
  exact ⟨W2.fh, fun a u e => e, fun a u e => .inl (.inl e), fun a u e _ => e, fun a e => e, W2.mem, W2.nd, fun p hp => .inr (.inl (List.mem_map_of_mem hp))⟩
theorem withD_poke {o u : HO} (W : Wd (withD F1 H1 M1 D o) F H M1) (fd : F D = none) (dm : D ∉ M1.map (·.1)) : Wd (withD F1 H1 M1 D o) F (upd H D u) M1 where
  fh := fun a v e => by
    rw [upd_ne (ne_of_none e fd)]
    exact W.fh a v e
  f0 := W.f0
  fnew := W.fnew
  keep := fun a v e n => by
    have ne : a ≠ D := fun z => n (.inr z)
    rw [upd_ne ne]
    exact W.keep a v e n
  dom := fun a e => by
    by_cases z : a = D
    · rw [z, upd_same] at e
      cases e
    · rw [upd_ne z] at e
      exact W.dom a e
  mem := fun p hp => by
    obtain ⟨g1, g2⟩ := W.mem p hp
    refine ⟨g1, g2.mono (fun _ _ h => h) fun v e => ?_⟩
    have ne : p.1 ≠ D := fun z => dm (by rw [← z]; exact List.mem_map_of_mem hp)
    rw [upd_ne ne]
    exact e
  nd := W.nd
  new := W.new
/-- the set at D has just the members of acc -/
structure DS (B2 : Bs) (w : World) (D : Addr) (M1 : Mem) (acc : List Int) (F H : Hp) : Prop where
  wd : Wd B2 F H M1
  fd : F D = none
  at_ : ∃ S n, H D = some (SetO w D S n) ∧ (∀ k, S k = true ↔ k ∈ acc) ∧ n ≤ acc.length
theorem DS.go (d : DS B2 w D M1 acc F H) (dm : D ∉ M1.map (·.1)) (W2 : Wd (here F H M1) F2 H2 M1) : DS B2 w D M1 acc F2 H2 := by
  obtain ⟨S, n, e, h1, h2⟩ := d.at_
  refine ⟨d.wd.trans W2, ?_, S, n, W2.keep D _ e dm, h1, h2⟩
  cases q : F2 D with
  | none => rfl
  | some o =>
    rcases W2.fnew D o q with (z | z) | z | z
    · have z : F D = some o := z
      rw [d.fd] at z
      cases z
    · obtain ⟨xs, rfl⟩ := z
      have h1 := W2.fh _ _ q
      rw [W2.keep D _ e dm] at h1
      exact nomatch h1
    · have z : H D = none := z
      rw [e] at z
      cases z
    · exact absurd z dm
end
section
variable {X : Cx} {ρ : List SD} {M : Mem} {Q : Kn} {pos cpos p : Pos} {elt tg it tg1 it1 : Expr} {ifs1 : List Expr} {scope : Scope} {own : List (Str × Nat)} {t t1 : Tg} {vs1 : List Nat}
def mem2 (n : Nat) (n1 : Nat → Nat) (c : Nat → Nat → Bool) (g : Nat → Nat → Int) : List Int := (List.range n).flatMap fun i => ((List.range (n1 i)).filter (c i)).map (g i)
def mem1 (n : Nat) (c : Nat → Bool) (g : Nat → Int) : List Int := ((List.range n).filter c).map g
theorem mem1_succ (n : Nat) (c : Nat → Bool) (g : Nat → Int) : mem1 (n + 1) c g = if c n = true then mem1 n c g ++ [g n] else mem1 n c g := by
  unfold mem1
  rw [List.range_succ, List.filter_append]
  cases h : c n <;> simp [h]
theorem mem1_len (n : Nat) (c : Nat → Bool) (g : Nat → Int) : (mem1 n c g).length ≤ n := by
  unfold mem1
  rw [List.length_map]
  have := List.length_filter_le c (List.range n)
  rwa [List.length_range] at this
theorem mem2_succ (n : Nat) (n1 : Nat → Nat) (c : Nat → Nat → Bool) (g : Nat → Nat → Int) : mem2 (n + 1) n1 c g = mem2 n n1 c g ++ mem1 (n1 n) (c n) (g n) := by
  unfold mem2 mem1
  rw [List.range_succ, List.flatMap_append]
  simp
theorem mem2_len {n m : Nat} {n1 : Nat → Nat} (c : Nat → Nat → Bool) (g : Nat → Nat → Int) (h : ∀ i, i < n → n1 i ≤ m) : ∀ i, i ≤ n → (mem2 i n1 c g).length ≤ i * m := by
  intro i
  induction i with
  | zero => intro _; exact Nat.zero_le _
  | succ i ih =>
    intro hi
    rw [mem2_succ, List.length_append, Nat.succ_mul]
    exact Nat.add_le_add (ih (by omega)) (Nat.le_trans (mem1_len _ _ _) (h i (by omega)))
def SComp2 (X : Cx) (scope : Scope) (ρ : List SD) (vs vs1 : List Nat) (t t1 : Tg) (tg1 it1 : Expr) (ifs1 : List Expr) (elt : Expr) (Q : Kn) (n : Nat) (item : Nat → SD) (M : Mem) : Prop :=
  ∃ (m : Nat) (n1 : Nat → Nat) (item1 : Nat → Nat → SD) (c : Nat → Nat → Bool) (g : Nat → Nat → Int), (∀ i, i < n → n1 i ≤ m) ∧ (n + 1) * m < 4000 ∧
    (∀ i, i < n → ∃ ρ2, t.put (wipeR ρ vs) (item i) = some ρ2 ∧ ∀ Y, Blk X scope Y → GI Y ρ2 M tg1 it1 fun n' it' M2 => n' = n1 i ∧ it' = item1 i ∧ M2 = M ∧
      ∀ j, j < n1 i → ∃ ρ3, t1.put (wipeR ρ2 vs1) (item1 i j) = some ρ3 ∧ (∀ Y, Blk X scope Y → GTs Y ρ3 M ifs1 fun b M2 => b = c i j ∧ M2 = M) ∧ (c i j = true → ∀ Y, Blk X scope Y → GE Y ρ3 M elt fun r M2 => r = .pu (.int (g i j)) ∧ M2 = M)) ∧
    ∀ l ns, ns.Pairwise (· < ·) → (∀ k, k ∈ ns ↔ k ∈ mem2 n n1 c g) → ns.length ≤ n * m → Q (.rf (.ref l)) ((l, .lst (pints ns)) :: M)
theorem gsetc2 (t t1 : Tg) (vs1 : List Nat) (hc : X.calm = true) (hN : X.N.Nodup) (hm : X.mg "sorted" = none) (ok : BlkOk X.N X.env.scope scope own) (hv : ∀ i ∈ vs1, i ∈ own.map (·.2)) (ht : TgOk X scope tg t) (ht1 : TgOk X scope tg1 t1) (hi : ∀ j ∈ t.ix, j ∈ own.map (·.2)) (hi1 : ∀ j ∈ t1.ix, j ∈ vs1)
    (h : GI X ρ M tg it (SComp2 X scope ρ (own.map (·.2)) vs1 t t1 tg1 it1 ifs1 elt Q)) (hg : Gl X "sorted" := by rfl)
    (hs : ∀ x, foldedSetIterable it X.env x = pure x := by intro _; rfl) (hs1 : ∀ env x, foldedSetIterable it1 env x = pure x := by intro _ _; rfl)
    (he2 : starEach [sc2 elt tg it tg1 it1 ifs1 scope cpos] X.env = [(false, eval (sc2 elt tg it tg1 it1 ifs1 scope cpos) X.env)] := by rfl) :
    GE X ρ M (.Call (.Name "sorted" p) [sc2 elt tg it tg1 it1 ifs1 scope cpos] [] pos) Q := .mk fun B F H σ Q' W S s => by
  refine wE_of (pe_callB (cr_sortedB hc) hg hm PyProof.Rows.boot_sorted (pa_cons (pe_sc2 (g := t.g X.K) (g1 := t1.g X.K) (wi1 := bI X scope tg1 it1) (tt1 := bT X scope ifs1) (te := bE X scope elt) hc hN pI ok hv (fun Y hY => ?_) hs hs1) pa_nil he2) (by decide) (by decide) he2) ?_
  · obtain ⟨s', H', C, cl, fp, rfl⟩ := hY
    exact ⟨ht _ _ _ _ _, bI_p, ht1 _ _ _ _ _, bT_p, bE_p⟩
  refine h B F H σ _ W S fun n item M1 J F1 H1 hx W1 s1 gi D hD => ?_
  obtain ⟨m, n1, item1, c, g, hm1, hn, turn, fin⟩ := hx
  obtain ⟨f1, f2, dm⟩ := W1.fresh hD
  have len : ∀ i, i < n → ∀ j, j ≤ n1 i → (mem2 i n1 c g ++ mem1 j (c i) (g i)).length < 4000 := fun i hin j hj => by
    have a1 := mem2_len c g hm1 i (Nat.le_of_lt hin)
    have a2 := mem1_len j (c i) (g i)
    have a3 := hm1 i hin
    have a4 : i * m ≤ n * m := Nat.mul_le_mul_right m (Nat.le_of_lt hin)
    rw [Nat.succ_mul] at hn
    rw [List.length_append]
    omega
  refine ⟨fun i k H' => i + k = n ∧ ∃ F', DS (withD F1 H1 M1 D (SetO X.w D (fun _ => false) 0)) X.w D M1 (mem2 i n1 c g) F' H' ∧ Same F1 F', ⟨n, Nat.zero_add n, F1, ⟨withD_start W1 hD, f1, _, 0, upd_same, by simp [mem2], Nat.zero_le _⟩, Same.refl F1⟩, ?_⟩
  rintro i k H' ⟨hik, F', d, s'⟩
  by_cases hin : i < n
  · refine .inr ⟨gi.go i F' H' s' d.wd.fh hin, fun H2 => ∃ F2, DS (withD F1 H1 M1 D (SetO X.w D (fun _ => false) 0)) X.w D M1 (mem2 (i + 1) n1 c g) F2 H2 ∧ Same F1 F2, fun H2 ⟨F2, q1, q2⟩ => ⟨k - 1, by omega, by omega, F2, q1, q2⟩, fun x H2 y => ?_⟩
    obtain ⟨F2, s2, W2, v2⟩ := gi.yld i (here F' H' M1) F' H' M1 x H2 hin s' d.wd.here y
    have d2 := d.go dm W2
    obtain ⟨ρ2, hput, hI⟩ := turn i hin
    refine tg_run W2.fh (pwipe (pMono ((s1.trans s').trans s2) S) _) v2 hput hi fun σ2 S2 hw => ⟨by rw [hw, wipe_wipe], fun Y hY => ?_⟩
    refine hI Y hY (here F2 H2 M1) F2 H2 σ2 _ W2.here S2 fun n' it' M3 J1 F3 H3 hx W3 s3 gi1 => ?_
    obtain ⟨e1, e2, e3, inner⟩ := hx
    subst e1
    subst e2
    have e3 := e3.symm
    subst e3
    have d3 := d2.go dm W3
    refine ⟨fun j k H' => j + k = n1 i ∧ ∃ F', DS (withD F1 H1 M1 D (SetO X.w D (fun _ => false) 0)) X.w D M1 (mem2 i n1 c g ++ mem1 j (c i) (g i)) F' H' ∧ Same F3 F', ⟨n1 i, Nat.zero_add _, F3, by simpa [mem1] using d3, Same.refl F3⟩, ?_⟩
    rintro j k2 H5 ⟨hjk, F5, d5, s5⟩
    by_cases hjn : j < n1 i
    · refine .inr ⟨gi1.go j F5 H5 s5 d5.wd.fh hjn, fun H6 => ∃ F6, DS (withD F1 H1 M1 D (SetO X.w D (fun _ => false) 0)) X.w D M1 (mem2 i n1 c g ++ mem1 (j + 1) (c i) (g i)) F6 H6 ∧ Same F3 F6, fun H6 ⟨F6, q1, q2⟩ => ⟨k2 - 1, by omega, by omega, F6, q1, q2⟩, fun x1 H6 y1 => ?_⟩
      obtain ⟨F6, s6, W6, v6⟩ := gi1.yld j (here F5 H5 M1) F5 H5 M1 x1 H6 hjn s5 d5.wd.here y1
      have d6 := d5.go dm W6
      obtain ⟨ρ3, hput1, htst, hel⟩ := inner j hjn
      refine tg_run W6.fh (pwipe (pMono ((s3.trans s5).trans s6) S2) vs1) v6 hput1 hi1 fun σ3 S3 hw1 => ⟨by rw [hw1, wipe_wipe], fun Y hY => ?_⟩
      refine gts_run (htst Y hY) (here F6 H6 M1) F6 H6 σ3 _ W6.here S3 fun b M7 F7 H7 hb W7 s7 => ?_
      obtain ⟨e4, e5⟩ := hb
      have e5 := e5.symm
      subst e5
      have d7 := d6.go dm W7
      have grow := mem1_succ j (c i) (g i)
      cases b with
      | false =>
        refine iteF ⟨F7, ?_, (s5.trans s6).trans s7⟩
        rw [grow, if_neg (by rw [← e4]; exact Bool.false_ne_true)]
        exact d7
      | true =>
        refine iteT fun Y2 hY2 => ?_
        refine hel e4.symm Y2 hY2 (here F7 H7 M1) F7 H7 σ3 _ W7.here (pMono s7 S3) fun r M8 v F8 H8 hr W8 s8 vv => ?_
        obtain ⟨e6, e7⟩ := hr
        subst e6
        have e7 := e7.symm
        subst e7
        have d8 := d7.go dm W8
        have vv : Dt F8 v (.int (g i j)) := vv
        cases vv
        obtain ⟨S0, cnt, eD, hS, hcnt⟩ := d8.at_
        have l1 := len i hin j (Nat.le_of_lt hjn)
        rw [if_pos e4.symm] at grow
        refine ⟨g i j, S0, cnt, rfl, eD, by unfold scanBound; omega, F8, ⟨withD_poke d8.wd d8.fd dm, d8.fd, _, _, upd_same, fun k => ?_, ?_⟩, ((s5.trans s6).trans s7).trans s8⟩
        · rw [grow, ← List.append_assoc, List.mem_append, List.mem_singleton, ← hS k]
          simp
        · rw [grow, ← List.append_assoc, List.length_append, List.length_singleton]
          split <;> omega
    · have ej : j = n1 i := by omega
      subst ej
      refine .inl ⟨gi1.stop F5 H5 s5 d5.wd.fh, F5, ?_, ((s'.trans s2).trans s3).trans s5⟩
      rw [mem2_succ]
      exact d5
  · have ei : i = n := by omega
    subst ei
    refine .inl ⟨gi.stop F' H' s' d.wd.fh, ?_⟩
    obtain ⟨S0, cnt, eD, hS, hcnt⟩ := d.at_
    have l2 := mem2_len c g hm1 i (Nat.le_refl _)
    rw [Nat.succ_mul] at hn
    refine ⟨D, S0, cnt, rfl, eD, by omega, fun ns q h1 h2 h3 hq => ?_⟩
    exact s _ _ _ F' _ (fin q ns h1 (fun k => by rw [h2 k, hS k]) (by omega)) ((withD_back W1 hD d.wd).newl hq (of_ints ns)) (s1.trans s') rfl
end
end G

namespace G
open PySem PySem.Spec PyProof.Rows L2
section
variable {X : Cx} {ρ : List SD} {M : Mem} {Q : Kn} {pos p p2 cpos : Pos} {e : Expr}
/-- len(set(xs)) of ints that are all different -/
theorem glenset (hc : X.calm = true) (hm : X.mg "len" = none) (hm2 : X.mg "set" = none) (h : GE X ρ M e fun x M1 => ∃ ns, LV M1 x (pints ns) ∧ ns.Nodup ∧ ns.length ≤ 4000 ∧ Q (.pu (.int (ns.length : Nat))) M1)
    (hg : Gl X "len" := by rfl) (hg2 : Gl X "set" := by rfl) (he : starEach [e] X.env = (false, eval e X.env) :: starEach [] X.env := by rfl) : GE X ρ M (.Call (.Name "len" p) [.Call (.Name "set" p2) [e] [] cpos] [] pos) Q := .mk fun B F H σ Q' W S s => by
  refine wE_of (RZ.pe_lenSetI hg hm hg2 hm2 pE hc he) (h B F H σ _ W S fun x M1 v F1 H1 hx W1 s1 vx => ?_)
  obtain ⟨ns, lv, hnd, hz, q⟩ := hx
  obtain ⟨p, vs, rfl, hp, pr⟩ := lv.at W1 vx
  have ev := ints_of pr
  subst ev
  exact ⟨p, ns, rfl, .inl (.of hp), hnd, hz, s _ M1 _ F1 H1 q W1 s1 (.int _)⟩
end
end G

namespace G
open PySem PySem.Spec PyProof.Rows L2
section
variable {X : Cx} {ρ : List SD} {M : Mem} {Q : Kn} {pos p : Pos} {tg a b c : Expr} {QI : Nat → (Nat → SD) → Mem → Prop}
/-- range(lo, hi, c) -/
theorem igr3 (hm : X.mg "range" = none) (h : GE X ρ M a fun x M1 => ∃ lo, x = .pu (.int lo) ∧ GE X ρ M1 b fun y M2 => ∃ hi, y = .pu (.int hi) ∧ GE X ρ M2 c fun z M3 => ∃ st n, z = .pu (.int st) ∧ RgC lo hi st n ∧ QI n (fun i => .pu (.int (lo + (i : Int) * st))) M3)
    (hg : Gl X "range" := by rfl) (hs : starEach [a, b, c] X.env = (false, eval a X.env) :: starEach [b, c] X.env := by rfl) (hs2 : starEach [b, c] X.env = (false, eval b X.env) :: starEach [c] X.env := by rfl) (hs3 : starEach [c] X.env = (false, eval c X.env) :: starEach [] X.env := by rfl)
    (hpl : (backTo pos (starEach [b, c] X.env)).any (·.1) = false := by rfl) : GI X ρ M tg (.Call (.Name "range" p) [a, b, c] [] pos) QI := .mk fun B F H σ R' W S s => by
  refine wI_of (pi_range3 hg hm pA hs hpl) (wA_of (pa_cons pE (pa_cons pE (pa_cons pE pa_nil hs3) hs2) hs) (h B F H σ _ W S fun x M1 v F1 H1 hx W1 s1 vx => ?_))
  obtain ⟨lo, rfl, hx⟩ := hx
  have vx : Dt F1 v (.int lo) := vx
  cases vx
  refine hx B F1 H1 σ _ W1 (pMono s1 S) fun y M2 w F2 H2 hy W2 s2 wy => ?_
  obtain ⟨hi, rfl, hy⟩ := hy
  have wy : Dt F2 w (.int hi) := wy
  cases wy
  refine hy B F2 H2 σ _ W2 (pMono (s1.trans s2) S) fun z M3 u F3 H3 hz W3 s3 uz => ?_
  obtain ⟨st, n, rfl, hr, q⟩ := hz
  have uz : Dt F3 u (.int st) := uz
  cases uz
  exact ⟨lo, hi, st, n, rfl, hr, s _ _ M3 _ F3 H3 q W3 ((s1.trans s2).trans s3) git_rngC⟩
theorem cutL_nat {α : Type} {xs : List α} {i j : Nat} (h1 : i ≤ j) (h2 : j ≤ xs.length) : cutL xs (some (i : Int)) (some (j : Int)) = (xs.drop i).take (j - i) := by
  unfold cutL
  rw [HT.sIx_nat, HT.sIx_nat, Nat.min_eq_left h2, Nat.min_eq_left (Nat.le_trans h1 h2)]
end
end G

namespace G
open PySem PySem.Spec PyProof.Rows L2
/-- a list is frozen, whatever it holds -/
theorem Wd.freezeG {B : Bs} {F H : Hp} {M : Mem} {p : Addr} {xs : List SD} (W : Wd B F H ((p, .lst xs) :: M)) : ∃ F' vs, Same F F' ∧ Wd B F' H M ∧ F' p = some (.lst vs) ∧ Paired (VOk F') vs xs := by
  obtain ⟨f1, vs, f2, f3⟩ := W.mem _ List.mem_cons_self
  have f1 : F p = none := f1
  have f2 : H p = some (.lst vs) := f2
  have nd : p ∉ M.map (·.1) ∧ (M.map (·.1)).Nodup := by
    have h := W.nd
    rw [List.map_cons] at h
    exact List.nodup_cons.mp h
  have sf : Same F (upd F p (.lst vs)) := by
    intro a u e
    rw [upd_ne (ne_of_none e f1)]
    exact e
  have other : ∀ {a : Addr}, a ≠ p → upd F p (.lst vs) a = F a := fun h => upd_ne h
  refine ⟨upd F p (.lst vs), vs, sf, ?_, upd_same, vMono sf f3⟩
  refine ⟨fun a u e => ?_, fun a u e => sf a u (W.f0 a u e), fun a u e => ?_, W.keep, W.dom, fun q hq => ?_, nd.2, fun q hq => W.new q (List.mem_cons_of_mem _ hq)⟩
  · rcases Classical.em (a = p) with z | z
    · rw [z, upd_same] at e
      rw [z, f2, e]
    · rw [other z] at e
      exact W.fh a u e
  · rcases Classical.em (a = p) with z | z
    · rw [z]
      exact .inr (W.new _ List.mem_cons_self)
    · rw [other z] at e
      exact W.fnew a u e
  · obtain ⟨g1, g2⟩ := W.mem q (List.mem_cons_of_mem _ hq)
    have ne : q.1 ≠ p := fun z => nd.1 (z ▸ List.mem_map_of_mem hq)
    exact ⟨(other ne).trans g1, g2.mono sf fun _ e => e⟩
theorem git_listG {K : PySem.W.Frag} {F : Hp} {a : Addr} {vs : List V} {xs : List SD} (h : F a = some (.lst vs)) (hd : Paired (VOk F) vs xs) : GIt F (Itl K a) xs.length (fun i => xs.getD i .un) where
  go := fun i F' H s1 s2 hi => by
    have hv : i < vs.length := by
      rw [Paired.length hd]
      exact hi
    exact ⟨vs, vs[i], .of (s2 _ _ (s1 _ _ h)), List.getElem?_eq_getElem hv⟩
  stop := fun F' H s1 s2 => ⟨vs, .of (s2 _ _ (s1 _ _ h)), Nat.le_of_eq (Paired.length hd)⟩
  yld := fun i B F' H M x H' hi s1 W y => by
    obtain ⟨rfl, y⟩ := y
    have g := y vs (.of (W.fh _ _ (s1 _ _ h)))
    obtain ⟨v, e1, e2⟩ := paired_at hd (List.getElem?_eq_getElem hi)
    have e : v = x := Option.some.inj (e1.symm.trans g)
    subst e
    refine ⟨F', Same.refl F', W, ?_⟩
    rw [List.getD_eq_getElem?_getD, List.getElem?_eq_getElem hi]
    exact SOk.mono s1 e2
/-- for x in l, l a new list: it is frozen -/
theorem igmem {X : Cx} {ρ : List SD} {M : Mem} {tg e : Expr} {QI : Nat → (Nat → SD) → Mem → Prop} (h : GE X ρ M e fun x M1 => ∃ l xs M2, x = .rf (.ref l) ∧ M1 = (l, .lst xs) :: M2 ∧ QI xs.length (fun i => xs.getD i .un) M2) : GI X ρ M tg e QI := .mk fun B F H σ R' W S s => by
  refine wI_of (pi_list pE) (h B F H σ _ W S fun x M1 v F1 H1 hx W1 s1 vx => ?_)
  obtain ⟨l, xs, M2, rfl, rfl, q⟩ := hx
  obtain rfl : v = .ref l := vx
  obtain ⟨F2, vs, s2, W2, h1, h2⟩ := W1.freezeG
  exact ⟨l, rfl, ⟨_, .of (W2.fh _ _ h1)⟩, s _ _ M2 _ F2 H1 q W2 (s1.trans s2) (git_listG h1 h2)⟩
end G

namespace G
open PySem PySem.Spec PyProof.Rows L2
section
variable {X : Cx} {ρ : List SD} {M : Mem} {Q : Kn} {QT : Bool → Mem → Prop} {pos : Pos} {a b e : Expr}
/-! ### is None, is not None -/
def dNon : PyData → Bool
  | .none => true
  | _ => false
theorem non_of {F : Hp} {v : V} {d : PyData} (h : Dt F v d) : decide (v = V.non) = dNon d := by
  cases h <;> first
    | rfl
    | exact decide_eq_false (fun z => nomatch z)
theorem rIsN_ {d : PyData} (q : Q (.pu (.bool (dNon d))) M) : RR X (fun x y H Q => y = .non ∧ Q (.bl (decide (x = .non))) H) (.pu d) (.pu .none) M Q := fun B F H v w Q' W hv hw s => by
  have hw : Dt F w .none := hw
  cases hw
  refine ⟨rfl, s _ M _ F H q W (Same.refl F) ?_⟩
  show Dt F _ _
  rw [non_of hv]
  exact .bl _
theorem rNotN_ {d : PyData} (q : Q (.pu (.bool (!dNon d))) M) : RR X (fun x y H Q => y = .non ∧ Q (.bl (!decide (x = .non))) H) (.pu d) (.pu .none) M Q := fun B F H v w Q' W hv hw s => by
  have hw : Dt F w .none := hw
  cases hw
  refine ⟨rfl, s _ M _ F H q W (Same.refl F) ?_⟩
  show Dt F _ _
  rw [non_of hv]
  exact .bl _
theorem tisN {j : Nat} {p : Pos} (h : GE X ρ M a fun x M1 => ∃ d, x = .pu d ∧ QT (dNon d) M1) : GT X ρ M (.Compare a [.Is] [.Constant .none j p] pos) QT := gtC op_isN (nomark _) (h.mono fun x M1 ⟨d, e, q⟩ => e ▸ gnon (rIsN_ ⟨_, rfl, q⟩))
theorem tnotN {j : Nat} {p : Pos} (h : GE X ρ M a fun x M1 => ∃ d, x = .pu d ∧ QT (!dNon d) M1) : GT X ρ M (.Compare a [.IsNot] [.Constant .none j p] pos) QT := gtC op_notN (nomark _) (h.mono fun x M1 ⟨d, e, q⟩ => e ▸ gnon (rNotN_ ⟨_, rfl, q⟩))
theorem gisN {j : Nat} {p : Pos} (h : GE X ρ M a fun x M1 => ∃ d, x = .pu d ∧ Q (.pu (.bool (dNon d))) M1) : GE X ρ M (.Compare a [.Is] [.Constant .none j p] pos) Q := geC op_isN (nomark _) (h.mono fun x M1 ⟨d, e, q⟩ => e ▸ gnon (rIsN_ q))
theorem gnotN {j : Nat} {p : Pos} (h : GE X ρ M a fun x M1 => ∃ d, x = .pu d ∧ Q (.pu (.bool (!dNon d))) M1) : GE X ρ M (.Compare a [.IsNot] [.Constant .none j p] pos) Q := geC op_notN (nomark _) (h.mono fun x M1 ⟨d, e, q⟩ => e ▸ gnon (rNotN_ q))
/-! ### xs[::k] of ints: ints -/
theorem ints_all : ∀ {ns : List Int} {us : List Value}, Vals (ns.map V.int) us → ∀ u ∈ us, ∃ i t, u = Value.int i t
  | [], _, .nil, u, hu => absurd hu List.not_mem_nil
  | n :: ns, _, .cons r t, u, hu => by
    rcases List.mem_cons.mp hu with e | hu
    · obtain ⟨t, rfl⟩ := r
      exact ⟨n, t, e⟩
    · exact ints_all t u hu
theorem all_ints : ∀ {us : List Value}, (∀ u ∈ us, ∃ i t, u = Value.int i t) → ∃ ns : List Int, Vals (ns.map V.int) us
  | [], _ => ⟨[], .nil⟩
  | u :: us, h => by
    obtain ⟨i, t, rfl⟩ := h u List.mem_cons_self
    obtain ⟨ns, v⟩ := all_ints fun w hw => h w (List.mem_cons_of_mem _ hw)
    exact ⟨i :: ns, .cons ⟨t, rfl⟩ v⟩
theorem pick_in {items : Array Value} {lo hi st : Option Int} : ∀ u ∈ (slicePick items lo hi st).toList, u ∈ items.toList := fun u hu => by
  unfold slicePick at hu
  obtain ⟨i, _, e⟩ := List.mem_filterMap.mp (by simpa using hu)
  have := Array.mem_of_getElem? e
  simpa using this
theorem pe_sl3 {te : TE} {st : Int} {j : Nat} {p2 p3 : Pos} (h0 : st ≠ 0) (he : PE X e te) : PE X (.Subscript e (.Slice none none (some (.Constant (.int st) j p3)) p2) pos)
    (fun σ H Q => te σ H fun x H1 => ∃ (a : Addr) (ns : List Int), x = V.ref a ∧ SqL X.K H1 a (ns.map V.int) ∧ ∀ (ks : List Int) p, ks.length ≤ ns.length → H1 p = none → Q (.ref p) (upd H1 p (.lst (ks.map V.int)))) := by
  refine ⟨fun pins s σ H Q I h => ?_⟩
  refine Subscript_ (thn (he.run pins s σ H _ I h) fun v s1 ⟨x, H1, I1, r1, q1⟩ => ?_)
  obtain ⟨a, ns, rfl, hx, q⟩ := q1
  cases r1
  refine wpAny_Slice ?_
  rw [evalPart_none]
  refine wpAny_pure ?_
  refine wpAny_pure ?_
  rw [evalPart_some]
  refine thn ((pe_int (X := X) (i := st)).run pins s1 σ H1 (fun v H' => v = .int st ∧ H' = H1) I1 ⟨rfl, rfl⟩) fun u s3 ⟨y, H3, I3, r3, e1, e2⟩ => ?_
  subst e1 e2
  obtain ⟨t, rfl⟩ := r3
  have I4 : Inv X pins σ H3 { s3 with heap := s3.heap.push { cls := .type "slice", data := .fields #[.none, .none, .int st t] } } := I3.kept (t' := s3.toks) fun b ob q => Heap.get?_push_of_some _ q
  obtain ⟨its, r, ht, hz⟩ := I4.list hx
  have rl := r.length
  refine tail_any (ops := [.ref a, .ref s3.heap.objs.size]) ht.isList.typeIs slot_list_getitem.lookup ?_ (by with_unfolding_all rfl)
  refine wpAny_getItem_list_slice ht.isList (Heap.IsSliceOf.new ..) .none .none (.int st t) (fun z => h0 (Option.some.inj z)) ?_ (by rw [List.size_toArray] <;> omega)
  obtain ⟨ks, hk⟩ := all_ints fun u hu => ints_all r u (by simpa using pick_in (items := its.toArray) (lo := none) (hi := none) (st := some st) u hu)
  have hle := slicePick_size_le its.toArray none none (some st)
  have kl := hk.length
  have kl2 : ks.length ≤ ns.length := by
    have h2 : its.toArray.size = its.length := List.size_toArray
    have h3 : (slicePick its.toArray none none (some st)).toList.length = (slicePick its.toArray none none (some st)).size := Array.length_toList
    rw [List.length_map] at kl rl
    rw [h3] at kl
    rw [h2] at hle
    omega
  have hz2 : ns.length ≤ sizeLine := by
    rw [List.length_map] at hz
    exact hz
  refine ⟨V.ref _, _, I4.laid (t' := s3.toks) (o := .lst (ks.map V.int)) (fun b ob q => Heap.get?_push_of_some _ q) (Nat.le_refl _) ?_, rfl, q ks _ kl2 (I4.hok.fresh (Nat.le_refl _))⟩
  exact ⟨by rw [List.length_map]; exact Nat.le_trans kl2 hz2, _, 0, hk, Heap.get?_push_size _ rfl⟩
/-- xs[::k] of ints: ints, no more than there are -/
theorem gsl3 {st : Int} {j : Nat} {p2 p3 : Pos} (h0 : st ≠ 0) (h : GE X ρ M e fun x M1 => ∃ ns, LV M1 x (pints ns) ∧ ∀ l (ks : List Int), ks.length ≤ ns.length → Q (.rf (.ref l)) ((l, .lst (pints ks)) :: M1)) : GE X ρ M (.Subscript e (.Slice none none (some (.Constant (.int st) j p3)) p2) pos) Q := .mk fun B F H σ Q' W S s => by
  refine wE_of (pe_sl3 h0 pE) (h B F H σ _ W S fun x M1 v F1 H1 hx W1 s1 vx => ?_)
  obtain ⟨ns, lv, q⟩ := hx
  obtain ⟨p, vs, rfl, hp, pr⟩ := lv.at W1 vx
  have e := ints_of pr
  subst e
  exact ⟨p, ns, rfl, .of hp, fun ks q' hk hq => s _ _ _ F1 _ (q q' ks hk) (W1.newl hq (of_ints ks)) s1 rfl⟩
end
end G

namespace G
/-! ### what paths do -/
theorem go_out {T : Tab} {k : Int} {i c : Nat} (h : ¬ (i < T.length ∧ 0 < c)) : ∀ f, go T k f i c = ([], ((i : Int), (c : Int) - 1))
  | 0 => rfl
  | f + 1 => by
    unfold go
    rw [if_neg h]
theorem go_eq {T : Tab} {k : Int} {f i c : Nat} (h : i < T.length) (h0 : 0 < c) (hv : val T i (c - 1) = k) : go T k (f + 1) i c = ([(i, c - 1)], ((i : Int), (c : Int) - 1)) := by
  show (if i < T.length ∧ 0 < c then _ else _) = _
  rw [if_pos ⟨h, h0⟩, if_pos hv]
theorem go_lt {T : Tab} {k : Int} {f i c : Nat} (h : i < T.length) (h0 : 0 < c) (hv : val T i (c - 1) < k) : go T k (f + 1) i c = ((i, c - 1) :: (go T k f (i + 1) c).1, (go T k f (i + 1) c).2) := by
  show (if i < T.length ∧ 0 < c then _ else _) = _
  rw [if_pos ⟨h, h0⟩, if_neg (by omega), if_pos hv]
theorem go_gt {T : Tab} {k : Int} {f i c : Nat} (h : i < T.length) (h0 : 0 < c) (hv : k < val T i (c - 1)) : go T k (f + 1) i c = ((i, c - 1) :: (go T k f i (c - 1)).1, (go T k f i (c - 1)).2) := by
  show (if i < T.length ∧ 0 < c then _ else _) = _
  rw [if_pos ⟨h, h0⟩, if_neg (by omega), if_neg (by omega)]
/-- the number of an end outside in the told order -/
def rk (m : Nat) (e : Int × Int) : Option Int := if e.2 < 0 then some e.1 else if e.1 = m then some ((m : Int) + e.2) else none
theorem rk_in {m : Nat} {x y : Int} (h1 : 0 ≤ y) (h2 : x < m) : rk m (x, y) = none := by
  unfold rk
  rw [if_neg (by show ¬ y < 0; omega), if_neg (by show ¬ x = m; omega)]
theorem rk_left {m : Nat} {i : Nat} : rk m ((i : Int), ((0 : Nat) : Int) - 1) = some (i : Int) := by
  unfold rk
  rw [if_pos (by show ((0 : Nat) : Int) - 1 < 0; omega)]
theorem rk_down {m c : Nat} (h : 0 < c) : rk m ((m : Int), (c : Int) - 1) = some ((m : Int) + ((c : Int) - 1)) := by
  unfold rk
  rw [if_neg (by show ¬ (c : Int) - 1 < 0; omega), if_pos rfl]
theorem rk_range {T : Tab} {k r : Int} : ∀ (f i c : Nat), (T.length - i) + c ≤ f → i ≤ T.length → (i < T.length ∨ 0 < c) → rk T.length (go T k f i c).2 = some r → (i : Int) ≤ r ∧ r ≤ (T.length : Int) + (c : Int) - 1
  | 0, i, c, hf, hi, ha, h => by omega
  | f + 1, i, c, hf, hi, ha, h => by
    by_cases h1 : i < T.length ∧ 0 < c
    · obtain ⟨h1, h2⟩ := h1
      rcases Int.lt_trichotomy (val T i (c - 1)) k with hv | hv | hv
      · rw [go_lt h1 h2 hv] at h
        have := rk_range f (i + 1) c (by omega) (by omega) (by omega) h
        omega
      · rw [go_eq h1 h2 hv] at h
        rw [rk_in (by omega) (by omega)] at h
        cases h
      · rw [go_gt h1 h2 hv] at h
        have := rk_range f i (c - 1) (by omega) (by omega) (by omega) h
        omega
    · rw [go_out h1] at h
      by_cases hc : c = 0
      · subst hc
        rw [rk_left] at h
        injection h with h
        omega
      · have : i = T.length := by omega
        subst this
        rw [rk_down (by omega)] at h
        injection h with h
        omega
theorem rk_mono {T : Tab} {k k' r r' : Int} (hk : k < k') : ∀ (f i c i' c' : Nat), (T.length - i) + c ≤ f → (T.length - i') + c' ≤ f → i ≤ i' → i + c' = i' + c → i' ≤ T.length → (i < T.length ∨ 0 < c) → (i' < T.length ∨ 0 < c') →
    rk T.length (go T k f i c).2 = some r → rk T.length (go T k' f i' c').2 = some r' → r ≤ r'
  | 0, i, c, i', c', hf, hf', hi, ho, hm, ha, ha', h, h' => by omega
  | f + 1, i, c, i', c', hf, hf', hi, ho, hm, ha, ha', h, h' => by
    have g := rk_range (f + 1) i c hf (by omega) ha h
    have g' := rk_range (f + 1) i' c' hf' hm ha' h'
    by_cases h1 : i < T.length ∧ 0 < c
    · by_cases h2 : i' < T.length ∧ 0 < c'
      · have ne : val T i (c - 1) ≠ k := fun e => by
          rw [go_eq h1.1 h1.2 e, rk_in (by omega) (by omega)] at h
          cases h
        have ne' : val T i' (c' - 1) ≠ k' := fun e => by
          rw [go_eq h2.1 h2.2 e, rk_in (by omega) (by omega)] at h'
          cases h'
        by_cases ei : i = i'
        · subst ei
          have ec : c = c' := by omega
          subst ec
          by_cases hv : val T i (c - 1) < k
          · rw [go_lt h1.1 h1.2 hv] at h
            rw [go_lt h1.1 h1.2 (by omega)] at h'
            exact rk_mono hk f (i + 1) c (i + 1) c (by omega) (by omega) (by omega) (by omega) (by omega) (by omega) (by omega) h h'
          · rw [go_gt h1.1 h1.2 (by omega)] at h
            by_cases hv' : val T i (c - 1) < k'
            · rw [go_lt h1.1 h1.2 hv'] at h'
              exact rk_mono hk f i (c - 1) (i + 1) c (by omega) (by omega) (by omega) (by omega) (by omega) (by omega) (by omega) h h'
            · rw [go_gt h1.1 h1.2 (by omega)] at h'
              exact rk_mono hk f i (c - 1) i (c - 1) (by omega) (by omega) (by omega) (by omega) (by omega) (by omega) (by omega) h h'
        · by_cases hv : val T i (c - 1) < k
          · rw [go_lt h1.1 h1.2 hv] at h
            by_cases hv' : val T i' (c' - 1) < k'
            · rw [go_lt h2.1 h2.2 hv'] at h'
              exact rk_mono hk f (i + 1) c (i' + 1) c' (by omega) (by omega) (by omega) (by omega) (by omega) (by omega) (by omega) h h'
            · rw [go_gt h2.1 h2.2 (by omega)] at h'
              exact rk_mono hk f (i + 1) c i' (c' - 1) (by omega) (by omega) (by omega) (by omega) (by omega) (by omega) (by omega) h h'
          · rw [go_gt h1.1 h1.2 (by omega)] at h
            by_cases hv' : val T i' (c' - 1) < k'
            · rw [go_lt h2.1 h2.2 hv'] at h'
              exact rk_mono hk f i (c - 1) (i' + 1) c' (by omega) (by omega) (by omega) (by omega) (by omega) (by omega) (by omega) h h'
            · rw [go_gt h2.1 h2.2 (by omega)] at h'
              exact rk_mono hk f i (c - 1) i' (c' - 1) (by omega) (by omega) (by omega) (by omega) (by omega) (by omega) (by omega) h h'
      · rw [go_out h2] at h'
        by_cases hc : c' = 0
        · omega
        · have : i' = T.length := by omega
          subst this
          rw [rk_down (by omega)] at h'
          injection h' with h'
          omega
    · rw [go_out h1] at h
      by_cases hc : c = 0
      · subst hc
        rw [rk_left] at h
        injection h with h
        omega
      · have e1 : i = T.length := by omega
        have e2 : i' = T.length := by omega
        have e3 : c' = c := by omega
        subst e1 e3
        rw [rk_down (by omega)] at h
        rw [e2, go_out (by omega), rk_down (by omega)] at h'
        injection h with h
        injection h' with h'
        omega
theorem road_mono {T : Tab} {k k' : Int} (hk : k ≤ k') : ∀ (s f i c i' c' : Nat) (p p' : Nat × Nat), i ≤ i' → i + c' = i' + c → (go T k f i c).1[s]? = some p → (go T k' f i' c').1[s]? = some p' → p.1 ≤ p'.1
  | s, 0, i, c, i', c', p, p', hi, ho, h, h' => by simp [go] at h
  | s, f + 1, i, c, i', c', p, p', hi, ho, h, h' => by
    by_cases h1 : i < T.length ∧ 0 < c
    · by_cases h2 : i' < T.length ∧ 0 < c'
      · obtain ⟨h1, h1'⟩ := h1
        obtain ⟨h2, h2'⟩ := h2
        match s with
        | 0 =>
          have e : p = (i, c - 1) := by
            rcases Int.lt_trichotomy (val T i (c - 1)) k with hv | hv | hv
            · rw [go_lt h1 h1' hv] at h
              exact (Option.some.inj h).symm
            · rw [go_eq h1 h1' hv] at h
              exact (Option.some.inj h).symm
            · rw [go_gt h1 h1' hv] at h
              exact (Option.some.inj h).symm
          have e' : p' = (i', c' - 1) := by
            rcases Int.lt_trichotomy (val T i' (c' - 1)) k' with hv | hv | hv
            · rw [go_lt h2 h2' hv] at h'
              exact (Option.some.inj h').symm
            · rw [go_eq h2 h2' hv] at h'
              exact (Option.some.inj h').symm
            · rw [go_gt h2 h2' hv] at h'
              exact (Option.some.inj h').symm
          rw [e, e']
          exact hi
        | s + 1 =>
          have ne : val T i (c - 1) ≠ k := fun e => by
            rw [go_eq h1 h1' e] at h
            simp at h
          have ne' : val T i' (c' - 1) ≠ k' := fun e => by
            rw [go_eq h2 h2' e] at h'
            simp at h'
          by_cases hv : val T i (c - 1) < k
          · rw [go_lt h1 h1' hv] at h
            by_cases hv' : val T i' (c' - 1) < k'
            · rw [go_lt h2 h2' hv'] at h'
              exact road_mono hk s f (i + 1) c (i' + 1) c' p p' (by omega) (by omega) (by simpa using h) (by simpa using h')
            · rw [go_gt h2 h2' (by omega)] at h'
              have ne2 : i ≠ i' := fun e => by
                subst e
                have : c = c' := by omega
                subst this
                omega
              exact road_mono hk s f (i + 1) c i' (c' - 1) p p' (by omega) (by omega) (by simpa using h) (by simpa using h')
          · rw [go_gt h1 h1' (by omega)] at h
            by_cases hv' : val T i' (c' - 1) < k'
            · rw [go_lt h2 h2' hv'] at h'
              exact road_mono hk s f i (c - 1) (i' + 1) c' p p' (by omega) (by omega) (by simpa using h) (by simpa using h')
            · rw [go_gt h2 h2' (by omega)] at h'
              exact road_mono hk s f i (c - 1) i' (c' - 1) p p' (by omega) (by omega) (by simpa using h) (by simpa using h')
      · rw [go_out h2] at h'
        simp at h'
    · rw [go_out h1] at h
      simp at h
/-- a search that ends inside has stood there after as many steps as its distance -/
theorem road_end {T : Tab} {k : Int} {x y : Nat} : ∀ (f i c : Nat), (go T k f i c).2 = ((x : Int), (y : Int)) → x < T.length → (T.length - i) + c ≤ f → i ≤ T.length → i ≤ x ∧ y + 1 ≤ c ∧ (go T k f i c).1[(x - i) + (c - 1 - y)]? = some (x, y)
  | 0, i, c, h, hx, hf, hi => by
    have h1 : (i : Int) = x := congrArg Prod.fst h
    omega
  | f + 1, i, c, h, hx, hf, hi => by
    by_cases h1 : i < T.length ∧ 0 < c
    · obtain ⟨h1, h2⟩ := h1
      rcases Int.lt_trichotomy (val T i (c - 1)) k with hv | hv | hv
      · rw [go_lt h1 h2 hv] at h ⊢
        obtain ⟨g1, g2, g3⟩ := road_end f (i + 1) c h hx (by omega) (by omega)
        refine ⟨by omega, g2, ?_⟩
        have e : x - i + (c - 1 - y) = (x - (i + 1) + (c - 1 - y)) + 1 := by omega
        rw [e]
        simpa using g3
      · rw [go_eq h1 h2 hv] at h ⊢
        have e1 : (i : Int) = x := congrArg Prod.fst h
        have e2 : (c : Int) - 1 = y := congrArg Prod.snd h
        have e3 : i = x := by omega
        have e4 : c - 1 = y := by omega
        refine ⟨by omega, by omega, ?_⟩
        rw [e3, e4, Nat.sub_self, Nat.sub_self]
        rfl
      · rw [go_gt h1 h2 hv] at h ⊢
        obtain ⟨g1, g2, g3⟩ := road_end f i (c - 1) h hx (by omega) (by omega)
        refine ⟨g1, by omega, ?_⟩
        have e : x - i + (c - 1 - y) = (x - i + (c - 1 - 1 - y)) + 1 := by omega
        rw [e]
        simpa using g3
    · rw [go_out h1] at h
      have e1 : (i : Int) = x := congrArg Prod.fst h
      have e2 : (c : Int) - 1 = y := congrArg Prod.snd h
      omega
theorem run_rk_mono {T : Tab} {n : Nat} {k k' r r' : Int} (t : IsTab T n) (hk : k < k') (h : rk T.length (run T n k).2 = some r) (h' : rk T.length (run T n k').2 = some r') : r ≤ r' :=
  rk_mono hk _ 0 n 0 n (by omega) (by omega) (Nat.le_refl _) rfl (Nat.zero_le _) (.inl t.pos) (.inl t.pos) h h'
theorem run_rk_range {T : Tab} {n : Nat} {k r : Int} (t : IsTab T n) (h : rk T.length (run T n k).2 = some r) : 0 ≤ r ∧ r ≤ (T.length : Int) + (n : Int) - 1 := rk_range _ 0 n (by omega) (Nat.zero_le _) (.inl t.pos) h
theorem run_road_mono {T : Tab} {n : Nat} {k k' : Int} (hk : k ≤ k') {s : Nat} {p p' : Nat × Nat} (h : (run T n k).1[s]? = some p) (h' : (run T n k').1[s]? = some p') : p.1 ≤ p'.1 :=
  road_mono hk s _ 0 n 0 n p p' (Nat.le_refl _) rfl h h'
/-- of found places with the same distance those further down have greater values -/
theorem found_down {T : Tab} {n : Nat} (t : IsTab T n) {p q : Nat × Nat} (hp : p ∈ foundIn T n) (hq : q ∈ foundIn T n) (hd : (p.1 : Int) - p.2 = (q.1 : Int) - q.2) (hx : p.1 < q.1) : val T p.1 p.2 < val T q.1 q.2 := by
  obtain ⟨p1, p2, pf⟩ := found_in hp
  obtain ⟨q1, q2, qf⟩ := found_in hq
  have pe := of_decide_eq_true pf
  have qe := of_decide_eq_true qf
  obtain ⟨_, a1, a2⟩ := road_end (T.length + n) 0 n pe p1 (by omega) (Nat.zero_le _)
  obtain ⟨_, b1, b2⟩ := road_end (T.length + n) 0 n qe q1 (by omega) (Nat.zero_le _)
  refine Classical.byContradiction fun hn => ?_
  have e : q.1 - 0 + (n - 1 - q.2) = p.1 - 0 + (n - 1 - p.2) := by omega
  rw [e] at b2
  have := run_road_mono (T := T) (n := n) (by omega : val T q.1 q.2 ≤ val T p.1 p.2) b2 a2
  have : q.1 ≤ p.1 := this
  omega
theorem val_in {T : Tab} {n i j : Nat} (t : IsTab T n) (hi : i < T.length) (hj : j < n) : val T i j ∈ T.flatten := by
  rw [t.val hi hj]
  exact List.mem_flatten.mpr ⟨T[i], List.getElem_mem hi, List.getElem_mem _⟩
/-- keys that no value parts go the same way -/
theorem go_same {T : Tab} {n : Nat} {k k' : Int} (t : IsTab T n) (h : ∀ v ∈ T.flatten, (v < k ↔ v < k') ∧ v ≠ k ∧ v ≠ k') : ∀ (f i c : Nat), c ≤ n → go T k f i c = go T k' f i c
  | 0, i, c, _ => rfl
  | f + 1, i, c, hc => by
    by_cases h1 : i < T.length ∧ 0 < c
    · obtain ⟨h1, h2⟩ := h1
      obtain ⟨a1, a2, a3⟩ := h _ (val_in t h1 (show c - 1 < n by omega))
      by_cases hv : val T i (c - 1) < k
      · rw [go_lt h1 h2 hv, go_lt h1 h2 (a1.mp hv), go_same t h f (i + 1) c hc]
      · have : ¬ val T i (c - 1) < k' := fun z => hv (a1.mpr z)
        rw [go_gt h1 h2 (by omega), go_gt h1 h2 (by omega), go_same t h f i (c - 1) (by omega)]
    · rw [go_out h1, go_out h1]
theorem go_low {T : Tab} {n : Nat} {k : Int} (t : IsTab T n) (h : ∀ v ∈ T.flatten, k < v) : ∀ (f c : Nat), c ≤ f → c ≤ n → (go T k f 0 c).2 = ((0 : Int), (-1 : Int))
  | 0, c, hf, hc => by
    have : c = 0 := by omega
    subst this
    rfl
  | f + 1, c, hf, hc => by
    by_cases h2 : 0 < c
    · rw [go_gt t.pos h2 (h _ (val_in t t.pos (by omega)))]
      exact go_low t h f (c - 1) (by omega) (by omega)
    · have : c = 0 := by omega
      subst this
      rw [go_out (by omega)]
      rfl
theorem go_high {T : Tab} {n : Nat} {k : Int} (t : IsTab T n) (h : ∀ v ∈ T.flatten, v < k) : ∀ (f i : Nat), T.length - i ≤ f → i ≤ T.length → (go T k f i n).2 = ((T.length : Int), (n : Int) - 1)
  | 0, i, hf, hi => by
    have : i = T.length := by omega
    rw [this]
    rfl
  | f + 1, i, hf, hi => by
    have := t.npos
    by_cases h2 : i < T.length
    · rw [go_lt h2 t.npos (h _ (val_in t h2 (by omega)))]
      exact go_high t h f (i + 1) (by omega) (by omega)
    · have : i = T.length := by omega
      rw [go_out (by omega), this]
theorem run_low {T : Tab} {n : Nat} {k : Int} (t : IsTab T n) (h : ∀ v ∈ T.flatten, k < v) : (run T n k).2 = ((0 : Int), (-1 : Int)) := go_low t h _ n (by omega) (Nat.le_refl _)
theorem run_high {T : Tab} {n : Nat} {k : Int} (t : IsTab T n) (h : ∀ v ∈ T.flatten, v < k) : (run T n k).2 = ((T.length : Int), (n : Int) - 1) := go_high t h _ 0 (by omega) (Nat.zero_le _)
theorem run_same {T : Tab} {n : Nat} {k k' : Int} (t : IsTab T n) (h : ∀ v ∈ T.flatten, (v < k ↔ v < k') ∧ v ≠ k ∧ v ≠ k') : run T n k = run T n k' := go_same t h _ 0 n (Nat.le_refl _)
/-- one step down or to the left -/
def Stp (x y x' y' : Int) : Prop := (x' = x + 1 ∧ y' = y) ∨ (x' = x ∧ y' = y - 1)
inductive Road : List (Nat × Nat) → Int × Int → Prop
  | at (p : Nat × Nat) : Road [p] ((p.1 : Int), (p.2 : Int))
  | out (p : Nat × Nat) (e : Int × Int) : Stp p.1 p.2 e.1 e.2 → Road [p] e
  | on (p q : Nat × Nat) (L : List (Nat × Nat)) (e : Int × Int) : Stp p.1 p.2 q.1 q.2 → Road (q :: L) e → Road (p :: q :: L) e
theorem go_head {T : Tab} {k : Int} {f i c : Nat} (h : i < T.length) (h0 : 0 < c) : ∃ L, (go T k (f + 1) i c).1 = (i, c - 1) :: L := by
  rcases Int.lt_trichotomy (val T i (c - 1)) k with hv | hv | hv
  · rw [go_lt h h0 hv]
    exact ⟨_, rfl⟩
  · rw [go_eq h h0 hv]
    exact ⟨_, rfl⟩
  · rw [go_gt h h0 hv]
    exact ⟨_, rfl⟩
theorem go_road {T : Tab} {k : Int} : ∀ (f i c : Nat), i < T.length → 0 < c → (T.length - i) + c ≤ f → Road (go T k f i c).1 (go T k f i c).2
  | 0, i, c, hi, hc, hf => by omega
  | f + 1, i, c, hi, hc, hf => by
    have hcc : ((c - 1 : Nat) : Int) = (c : Int) - 1 := by omega
    rcases Int.lt_trichotomy (val T i (c - 1)) k with hv | hv | hv
    · rw [go_lt hi hc hv]
      by_cases h2 : i + 1 < T.length
      · have r := go_road (k := k) f (i + 1) c h2 hc (by omega)
        obtain ⟨f', rfl⟩ : ∃ f', f = f' + 1 := ⟨f - 1, by omega⟩
        obtain ⟨L, eL⟩ := go_head (k := k) (f := f') h2 hc
        rw [eL] at r ⊢
        exact .on _ _ _ _ (.inl ⟨by show ((i + 1 : Nat) : Int) = (i : Int) + 1; omega, rfl⟩) r
      · rw [go_out (fun z => h2 z.1)]
        exact .out _ _ (.inl ⟨by show ((i + 1 : Nat) : Int) = (i : Int) + 1; omega, hcc.symm⟩)
    · rw [go_eq hi hc hv]
      have z := Road.at (i, c - 1)
      dsimp only at z
      rw [hcc] at z
      exact z
    · rw [go_gt hi hc hv]
      by_cases h2 : 0 < c - 1
      · have r := go_road (k := k) f i (c - 1) hi h2 (by omega)
        obtain ⟨f', rfl⟩ : ∃ f', f = f' + 1 := ⟨f - 1, by omega⟩
        obtain ⟨L, eL⟩ := go_head (k := k) (f := f') hi h2
        rw [eL] at r ⊢
        exact .on _ _ _ _ (.inr ⟨rfl, by show ((c - 1 - 1 : Nat) : Int) = ((c - 1 : Nat) : Int) - 1; omega⟩) r
      · rw [go_out (fun z => h2 z.2)]
        exact .out _ _ (.inr ⟨rfl, by show ((c - 1 : Nat) : Int) - 1 = ((c - 1 : Nat) : Int) - 1; omega⟩)
theorem run_road {T : Tab} {n : Nat} {k : Int} (t : IsTab T n) : Road (run T n k).1 (run T n k).2 := go_road _ 0 n t.pos t.npos (by omega)
theorem run_first {T : Tab} {n : Nat} {k : Int} (t : IsTab T n) : ∃ L, (run T n k).1 = (0, n - 1) :: L := by
  have := t.pos
  obtain ⟨f, e⟩ : ∃ f, T.length + n = f + 1 := ⟨T.length + n - 1, by omega⟩
  unfold run
  rw [e]
  exact go_head t.pos t.npos
end G

namespace G
open PySem PySem.Spec PyProof.Rows L2
section
variable {X : Cx} {ρ : List SD} {M : Mem} {Q : Kn} {QT : Bool → Mem → Prop} {pos : Pos} {a b e : Expr}
/-- a list that a name holds is frozen ahead of the next statements -/
theorem gbz (i : Nat) {l : Addr} {ds : List PyData} {M2 : Mem} {sts : List Stmt} {D : GD} (hr : ρ[i]? = some (.rf (.ref l))) (h : GB X (ρ.set i (.pu (.list ds))) M2 sts D) : GB X ρ ((l, .lst (ds.map .pu)) :: M2) sts D := .mk fun B F H σ D' W S s => by
  obtain ⟨F', s', W', d⟩ := W.freeze
  obtain ⟨o, ho, so⟩ := pget S hr
  have eo : o = some (.ref l) := by
    match o, so with
    | some v, so => exact congrArg some so
  subst eo
  have P := pset (σ := σ) (o := some (V.ref l)) (r := .pu (.list ds)) d i (pMono s' S)
  have es : σ.set i (some (V.ref l)) = σ := by
    refine List.ext_getElem? fun j => ?_
    rw [List.getElem?_set]
    by_cases e : i = j
    · subst e
      have hl : i < σ.length := by
        obtain ⟨h, _⟩ := List.getElem?_eq_some_iff.mp ho
        exact h
      rw [if_pos rfl, if_pos hl, ho]
    · rw [if_neg e]
  rw [es] at P
  exact h B F' H σ D' W' P (s.mono s')
/-- a new list is frozen, all others are forgotten -/
theorem gzn (h : GE X ρ M e fun r M' => ∃ l xs ds M2, r = .rf (.ref l) ∧ M' = (l, .lst xs) :: M2 ∧ xs = ds.map .pu ∧ Q (.pu (.list ds)) []) : GE X ρ M e Q :=
  gf (gz (h.mono fun r M' ⟨l, xs, ds, M2, e1, e2, e3, q⟩ => ⟨l, ds, M2, e1, by rw [e2, e3], [], List.nil_sublist _, q⟩))
theorem cutL_map {α β : Type} (f : α → β) (L : List α) (i j : Option Int) : cutL (L.map f) i j = (cutL L i j).map f := by
  unfold cutL
  rw [List.length_map, List.map_take, List.map_drop]
theorem cutL_1 {α : Type} (L : List α) : cutL L (some 1) none = L.drop 1 := by
  unfold cutL
  rw [show (some (1 : Int)) = some ((1 : Nat) : Int) from rfl, HT.sIx_nat, HT.sIx_none]
  cases L with
  | nil => rfl
  | cons x L =>
    have e : min 1 (x :: L).length = 1 := by
      rw [List.length_cons]
      omega
    rw [e, List.length_cons, Nat.add_sub_cancel]
    exact List.take_length
theorem atI_last {α β : Type} (f : α → β) (L : List α) (z : α) : atI ((L ++ [z]).map f) (-1) = some (f z) := by
  unfold atI ixN
  rw [if_neg (by decide), if_pos (by rw [List.length_map, List.length_append, List.length_singleton]; omega)]
  have e : ((-1 : Int) + (((L ++ [z]).map f).length : Int)).toNat = L.length := by
    rw [List.length_map, List.length_append, List.length_singleton]
    omega
  rw [e]
  show ((L ++ [z]).map f)[L.length]? = some (f z)
  rw [List.getElem?_map, List.getElem?_append_right (Nat.le_refl _), Nat.sub_self]
  rfl
theorem lv_rows {M : Mem} : ∀ (T : Tab), Paired (LV M) ((T.map rowD).map SD.pu) (T.map pints)
  | [] => .nil
  | r :: T => by
    refine .cons ?_ (lv_rows T)
    have e : pints r = (r.map PyData.int).map SD.pu := by
      rw [List.map_map]
      rfl
    rw [e]
    exact .pu
theorem pairwise_last : ∀ {L : List Int} {z : Int}, (L ++ [z]).Pairwise (· < ·) → ∀ x ∈ L ++ [z], x ≤ z := fun {L z} h x hx => by
  rcases List.mem_append.mp hx with h1 | h1
  · exact Int.le_of_lt ((List.pairwise_append.mp h).2.2 x h1 z (List.mem_singleton.mpr rfl))
  · rw [List.mem_singleton.mp h1]
    exact Int.le_refl _
theorem road_step : ∀ {L : List (Nat × Nat)} {e : Int × Int}, Road L e → ∀ (i : Nat) (p q : Nat × Nat), L[i]? = some p → L[i + 1]? = some q → Stp p.1 p.2 q.1 q.2
  | _, _, .at p, i, _, _, _, h => by simp at h
  | _, _, .out p e s, i, _, _, _, h => by simp at h
  | _, _, .on p q L e s r, 0, a, b, h, h' => by
    have h : p = a := by simpa using h
    have h' : q = b := by simpa using h'
    rw [← h, ← h']
    exact s
  | _, _, .on p q L e s r, i + 1, a, b, h, h' => road_step r i a b (by simpa using h) (by simpa using h')
theorem road_last : ∀ {L : List (Nat × Nat)} {e : Int × Int}, Road L e → ∃ M z, L = M ++ [z] ∧ (((z.1 : Int), (z.2 : Int)) = e ∨ Stp z.1 z.2 e.1 e.2)
  | _, _, .at p => ⟨[], p, rfl, .inl rfl⟩
  | _, _, .out p e s => ⟨[], p, rfl, .inr s⟩
  | _, _, .on p q L e s r => by
    obtain ⟨M, z, h1, h2⟩ := road_last r
    exact ⟨p :: M, z, by rw [h1]; rfl, h2⟩
end
end G

namespace G
open PySem PySem.Spec PyProof.Rows L2
theorem fm_list {α : Type} (L : List α) (d : α) (c : α → Bool) (g : α → SD) : fm L.length (fun i => c (L.getD i d)) (fun i => g (L.getD i d)) = (L.filter c).map g := by
  have h : ∀ m, m ≤ L.length → fm m (fun i => c (L.getD i d)) (fun i => g (L.getD i d)) = ((L.take m).filter c).map g := by
    intro m
    induction m with
    | zero => intro _; rfl
    | succ m ih =>
      intro hm
      have e : L.take (m + 1) = L.take m ++ [L[m]] := by rw [List.take_add_one, List.getElem?_eq_getElem hm]; rfl
      rw [fm_succ, ih (by omega), e, List.filter_append, G.getD_at hm]
      cases hc : c L[m] <;> simp [hc]
  have z := h L.length (Nat.le_refl _)
  rwa [List.take_length] at z
theorem fm_none (n : Nat) (g : Nat → SD) : fm n (fun _ => false) g = [] := by
  unfold fm
  rw [List.filter_eq_nil_iff.mpr (fun _ _ => Bool.false_ne_true)]
  rfl
theorem sort_uniq {α : Type} {R : α → α → Prop} (anti : ∀ a b, R a b → R b a → a = b) : ∀ {l1 l2 : List α}, l1.Perm l2 → l1.Pairwise R → l2.Pairwise R → l1 = l2
  | [], l2, hp, _, _ => (List.Perm.nil_eq hp)
  | a :: l1, [], hp, _, _ => absurd hp.length_eq (by simp)
  | a :: l1, b :: l2, hp, h1, h2 => by
    obtain ⟨a1, a2⟩ := List.pairwise_cons.mp h1
    obtain ⟨b1, b2⟩ := List.pairwise_cons.mp h2
    have e : a = b := by
      rcases List.mem_cons.mp (hp.mem_iff.mp List.mem_cons_self) with e | ha
      · exact e
      · rcases List.mem_cons.mp (hp.mem_iff.mpr List.mem_cons_self) with e | hb
        · exact e.symm
        · exact anti a b (a1 b hb) (b1 a ha)
    subst e
    rw [sort_uniq anti ((List.perm_cons a).mp hp) a2 b2]
theorem eqv_int (a b : Int) : PyData.eqv (.int a) (.int b) = decide (a = b) := by
  simp [PyData.eqv]
  rfl
theorem any_int (L : List Int) (v : Int) : ((L.map PyData.int).any fun z => PyData.eqv z (.int v)) = decide (v ∈ L) := by
  induction L with
  | nil => rfl
  | cons q L ih =>
    rw [List.map_cons, List.any_cons, ih, eqv_int]
    by_cases h : v = q
    · simp [h]
    · have : ¬ q = v := fun z => h z.symm
      simp [h, this]
theorem shaped_eqv {d : PyData} (h : SeqAt.shaped d = true) : PyData.eqv d d = true := by
  unfold SeqAt.shaped at h
  rw [Bool.and_eq_true] at h
  exact PySem.SeqAt.eqv_refl d h.1
theorem shaped_of {ds : List PyData} (k : Nat) (hk : k + 1 ≤ 64) (h : PyData.canLayAll0 ds = true) (hd : PyData.depthAll ds ≤ k) : SeqAt.shaped (.list ds) = true := by
  unfold SeqAt.shaped
  simp only [PyData.canLay0, h, Bool.true_and, PyData.depth]
  exact decide_eq_true (by omega)
theorem shaped_rd (L : List (Nat × Nat)) : SeqAt.shaped (.list (L.map plD)) = true := by
  have h : PyData.canLayAll0 (L.map plD) = true ∧ PyData.depthAll (L.map plD) ≤ 1 := by
    induction L with
    | nil => exact ⟨rfl, Nat.zero_le _⟩
    | cons p L ih => exact ⟨by simp [PyData.canLayAll0, PyData.canLay0, ih.1], by simp only [List.map_cons, PyData.depthAll, PyData.depth]; have := ih.2; omega⟩
  exact shaped_of 1 (by decide) h.1 h.2
theorem shaped_ints' (L : List Int) : SeqAt.shaped (.list (L.map .int)) = true := by
  have h : PyData.canLayAll0 (L.map .int) = true ∧ PyData.depthAll (L.map .int) ≤ 1 := by
    induction L with
    | nil => exact ⟨rfl, Nat.zero_le _⟩
    | cons p L ih => exact ⟨by simp [PyData.canLayAll0, PyData.canLay0, ih.1], by simp only [List.map_cons, PyData.depthAll, PyData.depth]; have := ih.2; omega⟩
  exact shaped_of 1 (by decide) h.1 h.2
theorem lv_ints {M : Mem} (L : List Int) : LV M (.pu (.list (L.map .int))) (pints L) := by
  have e : pints L = (L.map PyData.int).map SD.pu := by
    rw [List.map_map]
    rfl
  rw [e]
  exact .pu
theorem found_nodup (T : Tab) (n : Nat) : (foundIn T n).Nodup := by
  have h : ∀ m, ((List.range m).flatMap fun i => ((List.range n).filter (isF T n i)).map fun j => (i, j)).Nodup ∧ ∀ p ∈ (List.range m).flatMap fun i => ((List.range n).filter (isF T n i)).map fun j => (i, j), p.1 < m := by
    intro m
    induction m with
    | zero => exact ⟨List.nodup_nil, fun p hp => absurd hp List.not_mem_nil⟩
    | succ m ih =>
      rw [List.range_succ, List.flatMap_append]
      have e : ([m].flatMap fun i => ((List.range n).filter (isF T n i)).map fun j => (i, j)) = ((List.range n).filter (isF T n m)).map fun j => (m, j) := by simp
      rw [e]
      refine ⟨List.nodup_append.mpr ⟨ih.1, List.pairwise_map.mpr ((List.nodup_range.filter _).imp fun {a b} h e => h (congrArg Prod.snd e)), fun p hp q hq e2 => ?_⟩, fun p hp => ?_⟩
      · have := ih.2 p hp
        obtain ⟨j, _, e3⟩ := List.mem_map.mp hq
        rw [e2, ← e3] at this
        exact absurd this (Nat.lt_irrefl _)
      · rcases List.mem_append.mp hp with h | h
        · exact Nat.lt_succ_of_lt (ih.2 p h)
        · obtain ⟨j, _, e3⟩ := List.mem_map.mp h
          rw [← e3]
          exact Nat.lt_succ_self m
  exact (h T.length).1
/-- items next to each other -/
theorem zpp_next {α : Type} (f : α → PyData) (L : List α) {i : Nat} (hi : i < min (L.map f).length ((L.drop 1).map f).length) : ∃ (h1 : i < L.length) (h2 : i + 1 < L.length), zpp (L.map f) ((L.drop 1).map f) i = .pu (.tuple [f L[i], f L[i + 1]]) := by
  have hi1 : i < (L.map f).length := Nat.lt_of_lt_of_le hi (Nat.min_le_left _ _)
  have hi2 : i < ((L.drop 1).map f).length := Nat.lt_of_lt_of_le hi (Nat.min_le_right _ _)
  have g1 : i < L.length := by simpa using hi1
  have g2 : i < (L.drop 1).length := by simpa using hi2
  have g3 : i + 1 < L.length := by
    rw [List.length_drop] at g2
    omega
  have e2 : (L.drop 1)[i] = L[i + 1] := by
    rw [List.getElem_drop]
    congr 1
    omega
  exact ⟨g1, g3, by rw [zpp_at hi1 hi2, List.getElem_map, List.getElem_map, e2]⟩
theorem map_item {α : Type} {M : Mem} (f : α → PyData) (L : List α) {i : Nat} (h : i < L.length) : Item M (.pu (.list (L.map f))) (i : Int) (.pu (f L[i])) := .lst (atI_nat (j := i) (by rw [List.getElem?_map, List.getElem?_eq_getElem h]; rfl))
theorem map_len {α : Type} {M : Mem} (f : α → PyData) (L : List α) : Len M (.pu (.list (L.map f))) L.length := by
  have z := Len.lst (M := M) (LV.pu (ds := L.map f))
  rw [List.length_map, List.length_map] at z
  exact z
theorem some_ranks (m : Nat) (rks : List (Option Int)) : (rks.map (fun o => match o with | some r => PyData.int r | none => PyData.none)).filter (fun d => !dNon d) = (rks.filterMap id).map .int := by
  induction rks with
  | nil => rfl
  | cons o rks ih =>
    cases o with
    | none => simpa [dNon] using ih
    | some r => simpa [dNon] using ih
theorem ranks_sorted {T : Tab} {n : Nat} {ks : List Int} (t : IsTab T n) (h : ks.Pairwise (· < ·)) : (ks.filterMap fun k => rk T.length (run T n k).2).Pairwise (· ≤ ·) := by
  rw [List.pairwise_filterMap]
  exact h.imp fun {a b} hab r hr r' hr' => run_rk_mono t hab hr hr'
theorem ranks_first {T : Tab} {n : Nat} {ks : List Int} (t : IsTab T n) (up : ks.Pairwise (· < ·)) (h : ∃ a ∈ ks, ∀ v ∈ T.flatten, a < v) : ∃ L, (ks.filterMap fun k => rk T.length (run T n k).2) = 0 :: L := by
  obtain ⟨a, ha, hv⟩ := h
  match ks, up, ha with
  | k :: ks, up, ha =>
    have hk : ∀ v ∈ T.flatten, k < v := fun v h => by
      have := hv v h
      rcases List.mem_cons.mp ha with e | ha
      · omega
      · have := (List.pairwise_cons.mp up).1 a ha
        omega
    refine ⟨ks.filterMap fun k => rk T.length (run T n k).2, ?_⟩
    rw [List.filterMap_cons, run_low t hk]
    rfl
theorem ranks_last {T : Tab} {n : Nat} {ks : List Int} (t : IsTab T n) (up : ks.Pairwise (· < ·)) (h : ∃ a ∈ ks, ∀ v ∈ T.flatten, v < a) : ∃ L, (ks.filterMap fun k => rk T.length (run T n k).2) = L ++ [(T.length : Int) + (n : Int) - 1] := by
  obtain ⟨a, ha, hv⟩ := h
  obtain ⟨M, z, e⟩ := SrtO.snoc_of (l := ks) (List.length_pos_of_mem ha)
  subst e
  have hk : ∀ v ∈ T.flatten, v < z := fun v h => by
    have := hv v h
    have := pairwise_last up a ha
    omega
  refine ⟨M.filterMap fun k => rk T.length (run T n k).2, ?_⟩
  have np := t.npos
  rw [List.filterMap_append, List.filterMap_cons, run_high t hk]
  have e : rk T.length ((T.length : Int), (n : Int) - 1) = some ((T.length : Int) + (n : Int) - 1) := by
    rw [rk_down np]
    congr 1
    omega
  rw [e]
  rfl
end G

namespace G
open PySem PySem.Spec PyProof.Rows L2
section
variable {X : Cx} {ρ : List SD} {M : Mem} {Q : Kn} {QT : Bool → Mem → Prop} {QI : Nat → (Nat → SD) → Mem → Prop} {pos : Pos} {a b e tg : Expr}
theorem gmax {p : Pos} (hc : X.calm = true) (hm : X.mg "max" = none) (h : GE X ρ M a fun x M1 => ∃ i, x = .pu (.int i) ∧ GE X ρ M1 b fun y M2 => ∃ j, y = .pu (.int j) ∧ Q (.pu (.int (if j > i then j else i))) M2) (hg : Gl X "max" := by rfl) (he : starEach [a, b] X.env = [(false, eval a X.env), (false, eval b X.env)] := by rfl) (he2 : starEach [b] X.env = [(false, eval b X.env)] := by rfl) :
    GE X ρ M (.Call (.Name "max" p) [a, b] [] pos) Q :=
  gcb (call_max2 hc) hm PyProof.Rows.boot_max (acons (h.mono fun x M1 ⟨i, ex, h⟩ => acons (h.mono fun y M2 ⟨j, ey, q⟩ => anil fun B F H vs Q' W hvs s => by
    subst ex ey
    obtain ⟨v, w, rfl, hv, hw⟩ := p2 hvs
    have hv : Dt F v (.int i) := hv
    have hw : Dt F w (.int j) := hw
    cases hv
    cases hw
    exact ⟨i, j, rfl, s _ M2 _ F H q W (Same.refl F) (.int _)⟩) he2) (by rw [he, he2])) hg (he := by rw [he, he2]) (hpl := by rw [he2]; rfl)
/-- reversed(range(n)) -/
theorem irev {p p2 cpos : Pos} (hm : X.mg "reversed" = none) (hm2 : X.mg "range" = none) (h : GE X ρ M e fun x M1 => ∃ n : Nat, x = .pu (.int n) ∧ n ≤ 10000 ∧ QI n (fun i => .pu (.int ((n : Int) - 1 - (i : Int)))) M1)
    (hg : Gl X "reversed" := by rfl) (hg2 : Gl X "range" := by rfl) (he : starEach [e] X.env = [(false, eval e X.env)] := by rfl)
    (he2 : starEach [.Call (.Name "range" p2) [e] [] cpos] X.env = [(false, eval (.Call (.Name "range" p2) [e] [] cpos) X.env)] := by rfl) : GI X ρ M tg (.Call (.Name "reversed" p) [.Call (.Name "range" p2) [e] [] cpos] [] pos) QI := .mk fun B F H σ R' W S s => by
  refine wI_of (pi_revR hg hm (prg_1 hg2 hm2 pE he) he2) (h B F H σ _ W S fun x M1 v F1 H1 hx W1 s1 vx => ?_)
  obtain ⟨n, rfl, hn, q⟩ := hx
  have vx : Dt F1 v (.int n) := vx
  cases vx
  refine ⟨n, rfl, by omega, by omega, by omega, by omega, ?_⟩
  have e1 : ((n : Int) - 0).toNat = n := by omega
  rw [e1]
  refine s _ _ M1 _ F1 H1 q W1 s1 ?_
  have z := git_rngC (F := F1) (lo := (0 : Int) + ((n : Nat) : Int) - 1) (c := -1) (n := n)
  have e2 : (fun i : Nat => SD.pu (.int ((0 : Int) + ((n : Nat) : Int) - 1 + (i : Int) * (-1)))) = fun i : Nat => SD.pu (.int ((n : Int) - 1 - (i : Int))) := by
    funext i
    congr 2
    omega
  rw [e2] at z
  exact z
/-! ### xs * n -/
def repL {α : Type} (n : Nat) (xs : List α) : List α := (List.replicate n xs).flatten
theorem repL_len {α : Type} (n : Nat) (xs : List α) : (repL n xs).length = n * xs.length := by
  unfold repL
  induction n with
  | zero => simp
  | succ n ih => rw [List.replicate_succ, List.flatten_cons, List.length_append, ih, Nat.succ_mul, Nat.add_comm]
theorem vals_rep {xs : List V} {us : List Value} (r : Vals xs us) : ∀ n, Vals (repL n xs) (repL n us)
  | 0 => .nil
  | n + 1 => by
    unfold repL
    rw [List.replicate_succ, List.replicate_succ, List.flatten_cons, List.flatten_cons]
    exact r.append (vals_rep r n)
theorem paired_rep {F : Hp} {vs : List V} {xs : List SD} (r : Paired (VOk F) vs xs) : ∀ n, Paired (VOk F) (repL n vs) (repL n xs)
  | 0 => .nil
  | n + 1 => by
    unfold repL
    rw [List.replicate_succ, List.replicate_succ, List.flatten_cons, List.flatten_cons]
    exact paired_app r (paired_rep r n)
theorem mul_fits {m : Nat} {x : Int} (h0 : 0 ≤ x) (h9 : x ≤ 100000) (hm : m * x.toNat ≤ 100000) : ¬ (!Builtin.List.listFitsIndex x) = true ∧ ¬ m * x.toNat > (2 ^ 63 - 1) / 8 ∧ ¬ Builtin.List.listTooLong (m * x.toNat) = true :=
  ⟨by simp [Builtin.List.listFitsIndex]; omega, by omega, by simp [Builtin.List.listTooLong, sizeLine]; omega⟩
theorem op_mul_lx : OpR X (binaryOp .Mult) (fun x y H Q => ∃ a xs k, x = V.ref a ∧ y = V.int k ∧ SqL X.K H a xs ∧ 0 ≤ k ∧ k ≤ 100000 ∧ xs.length * k.toNat ≤ 100000 ∧ ∀ p, H p = none → Q (.ref p) (upd H p (.lst (repL k.toNat xs)))) := by
  intro pins s σ H x y v u Q I rx ry h
  obtain ⟨a, xs, k, rfl, rfl, hs, hk0, hk9, hk1, q⟩ := h
  obtain rfl : v = Value.ref a := rx
  obtain ⟨t, rfl⟩ := ry
  obtain ⟨its, rv, ⟨⟨cls, dd, data, sl⟩, n, ho, hc, hdn, hd⟩, hlen⟩ := I.list hs
  have hc1 : cls = Value.type "list" := hc
  have hd1 : data = Data.seq its.toArray n := hd
  subst hc1 hd1
  have hz : its.length = xs.length := rv.length.symm
  have hm : its.toArray.size * k.toNat ≤ 100000 := by
    rw [List.size_toArray, hz]
    exact hk1
  obtain ⟨hf, hf1, hf2⟩ := mul_fits hk0 hk9 hm
  have X1 := lm_list_mul_any a its.toArray n dd sl k t hf hf1 hf2
  refine wpAny_binaryOp_repeat_ref (T := "list") (U := "int") (by decide) ⟨_, ho, rfl⟩ (fun s' => typeIs_int s' _ _) noFill_list_mul F.fills_int_mul F.slot_int_rmul repeat_list F.slot_int_index.lookup
    (call_meets F.slot_int_rmul (typeIs_int s _ _) F.entry_int_rmul (F.args_int_rmul_2 _ _) (lm_int_rmul_list_any k t a its.toArray n dd sl)
      ⟨ho, rfl, ⟨_, ho, rfl⟩, call_meets F.slot_list_mul ⟨_, ho, rfl⟩ F.entry_list_mul (F.args_list_mul_2 _ _) X1 ⟨ho, ?_⟩⟩)
  rw [listMul_foldl_if]
  have h9 : k.toNat * xs.length ≤ sizeLine := by
    rw [Nat.mul_comm]
    exact Nat.le_trans hk1 (by decide)
  refine ⟨.ref s.heap.objs.size, upd H s.heap.objs.size (.lst (repL k.toNat xs)), I.laid (t' := s.toks) (fun b o e => Heap.get?_push_of_some _ e) (Nat.le_refl _) ⟨?_, _, 0, vals_rep rv k.toNat, Heap.get?_push_size _ rfl⟩, rfl, q _ (I.hok.fresh (Nat.le_refl _))⟩
  exact Nat.le_trans (Nat.le_of_eq (repL_len k.toNat xs)) h9
theorem op_mul_li : OpR X (binaryOp .Mult) (fun x y H Q => ∃ a xs, ∃ k : Nat, x = V.ref a ∧ y = V.int k ∧ SqL X.K H a xs ∧ xs.length * k ≤ 100000 ∧ k ≤ 100000 ∧ ∀ p, H p = none → Q (.ref p) (upd H p (.lst (repL k xs)))) := by
  intro pins s σ H x y v u Q I rx ry h
  obtain ⟨a, xs, k, rfl, rfl, hs, hk1, hk2, q⟩ := h
  exact op_mul_lx pins s σ H _ _ v u Q I rx ry ⟨a, xs, k, rfl, rfl, hs, by omega, by omega, by rw [Int.toNat_natCast]; exact hk1, by rw [Int.toNat_natCast]; exact q⟩
theorem gmulL (h : GE X ρ M a fun x M1 => GE X ρ M1 b fun y M2 => ∃ xs, ∃ k : Nat, LV M2 x xs ∧ y = .pu (.int k) ∧ xs.length * k ≤ 100000 ∧ k ≤ 100000 ∧ ∀ l, Q (.rf (.ref l)) ((l, .lst (repL k xs)) :: M2)) : GE X ρ M (.BinOp a .Mult b pos) Q := ge2 op_mul_li (h.mono fun x M1 h => h.mono fun y M2 ⟨xs, k, l1, ey, h1, h2, q⟩ => fun B F H v w Q' W hv hw s => by
  subst ey
  have hw : Dt F w (.int k) := hw
  cases hw
  obtain ⟨p, vs, rfl, hp, pr⟩ := l1.at W hv
  exact ⟨p, vs, k, rfl, rfl, .of hp, by rw [Paired.length pr]; exact h1, h2, fun q' hq => s _ _ _ F _ (q q') (W.newl hq (paired_rep pr k)) (Same.refl F) rfl⟩)
/-- list(range(a, b)) -/
theorem rgV_ints2 (a b : Int) : rgV a b = ((List.range (b - a).toNat).map fun i : Nat => a + (i : Int)).map V.int := by
  unfold rgV
  rw [List.map_map]
  rfl
theorem glistr2 {p p2 cpos : Pos} (hc : X.calm = true) (hm : X.mg "list" = none) (hm2 : X.mg "range" = none)
    (h : GE X ρ M a fun x M1 => ∃ i, x = .pu (.int i) ∧ GE X ρ M1 b fun y M2 => ∃ j, y = .pu (.int j) ∧ (0 ≤ i ∧ i ≤ 10000 ∧ 0 ≤ j ∧ j ≤ 10000) ∧ ∀ l, Q (.rf (.ref l)) ((l, .lst (pints ((List.range (j - i).toNat).map fun k : Nat => i + (k : Int)))) :: M2))
    (hg : Gl X "list" := by rfl) (hg2 : Gl X "range" := by rfl) (na : starEach [a, b] X.env = (false, eval a X.env) :: starEach [b] X.env := by rfl)
    (nb : starEach [b] X.env = (false, eval b X.env) :: starEach [] X.env := by rfl) (hp : (backTo cpos (starEach [b] X.env)).any (·.1) = false := by rfl)
    (he2 : starEach [.Call (.Name "range" p2) [a, b] [] cpos] X.env = [(false, eval (.Call (.Name "range" p2) [a, b] [] cpos) X.env)] := by rfl) : GE X ρ M (.Call (.Name "list" p) [.Call (.Name "range" p2) [a, b] [] cpos] [] pos) Q := .mk fun B F H σ Q' W S s => by
  refine wE_of (pe_listRg hc hg hm (prg_2 hg2 hm2 pE pE na nb hp) he2) (h B F H σ _ W S fun x M1 v F1 H1 hx W1 s1 vx => ?_)
  obtain ⟨i, rfl, hx⟩ := hx
  refine hx B F1 H1 σ _ W1 (pMono s1 S) fun y M2 w F2 H2 hy W2 s2 wy => ?_
  obtain ⟨j, rfl, hn, q⟩ := hy
  have vx : Dt F2 v (.int i) := vx.mono s2
  have wy : Dt F2 w (.int j) := wy
  cases vx
  cases wy
  refine ⟨i, j, rfl, rfl, .of_le (by omega) (by omega) (by omega) (by omega), fun d hd => ?_⟩
  rw [rgV_ints2]
  exact s _ _ _ F2 _ (q d) (W2.newl hd (of_ints _)) (s1.trans s2) rfl
end
/-! ### a list of lists is frozen as a whole -/
theorem Wd.retype {B : Bs} {F H : Hp} {M : Mem} {p : Addr} {xs ys : List SD} (W : Wd B F H ((p, .lst xs) :: M)) (h : ∀ vs, Paired (VOk F) vs xs → Paired (VOk F) vs ys) : Wd B F H ((p, .lst ys) :: M) where
  fh := W.fh
  f0 := W.f0
  fnew := W.fnew
  keep := W.keep
  dom := W.dom
  mem := fun q hq => by
    rcases List.mem_cons.mp hq with e | hq
    · subst e
      obtain ⟨f1, vs, f2, f3⟩ := W.mem _ List.mem_cons_self
      exact ⟨f1, vs, f2, h vs f3⟩
    · exact W.mem q (List.mem_cons_of_mem _ hq)
  nd := W.nd
  new := fun q hq => by
    rcases List.mem_cons.mp hq with e | hq
    · subst e
      exact W.new (p, .lst xs) List.mem_cons_self
    · exact W.new q (List.mem_cons_of_mem _ hq)
abbrev rowM (d : Addr × List Int) : Addr × MO := (d.1, .lst (pints d.2))
abbrev rowR (d : Addr × List Int) : SD := .rf (.ref d.1)
theorem Wd.deep {B : Bs} {H : Hp} {M : Mem} {l : Addr} : ∀ {rows : List (Addr × List Int)} {F : Hp} {pre : List SD}, Wd B F H ((l, .lst (pre ++ rows.map rowR)) :: (rows.map rowM ++ M)) → ∃ F', Same F F' ∧ Wd B F' H ((l, .lst (pre ++ rows.map fun d => .pu (rowD d.2))) :: M)
  | [], F, pre, W => ⟨F, Same.refl F, W⟩
  | d :: rows, F, pre, W => by
    have W1 : Wd B F H ((d.1, .lst ((d.2.map PyData.int).map .pu)) :: (l, .lst (pre ++ (d :: rows).map rowR)) :: (rows.map rowM ++ M)) := by
      have W0 := W.perm (List.Perm.swap (d.1, MO.lst (pints d.2)) (l, MO.lst (pre ++ (d :: rows).map rowR)) (rows.map rowM ++ M))
      have e : pints d.2 = (d.2.map PyData.int).map SD.pu := by
        rw [List.map_map]
        rfl
      rw [e] at W0
      exact W0
    obtain ⟨F1, s1, W2, dd⟩ := W1.freeze
    have W3 : Wd B F1 H ((l, .lst ((pre ++ [.pu (rowD d.2)]) ++ rows.map rowR)) :: (rows.map rowM ++ M)) := W2.retype fun vs h => by
      have h : Paired (VOk F1) vs (pre ++ (rowR d :: rows.map rowR)) := h
      have key : ∀ {pre : List SD} {vs : List V}, Paired (VOk F1) vs (pre ++ (rowR d :: rows.map rowR)) → Paired (VOk F1) vs ((pre ++ [.pu (rowD d.2)]) ++ rows.map rowR) := by
        intro pre
        induction pre with
        | nil =>
          intro vs h
          cases h with
          | cons h1 h2 =>
            have h1 : _ = V.ref d.1 := h1
            subst h1
            exact .cons dd h2
        | cons x pre ih =>
          intro vs h
          cases h with
          | cons h1 h2 => exact .cons h1 (ih h2)
      exact key h
    obtain ⟨F2, s2, W4⟩ := Wd.deep W3
    refine ⟨F2, s1.trans s2, ?_⟩
    rw [List.append_assoc] at W4
    exact W4
/-- a new list of lists is frozen, all others are forgotten -/
theorem gzd {X : Cx} {ρ : List SD} {M : Mem} {Q : Kn} {e : Expr} (h : GE X ρ M e fun r M' => ∃ (l : Addr) (rows : List (Addr × List Int)) (Mz : Mem), r = .rf (.ref l) ∧ M'.Perm ((l, .lst (rows.map rowR)) :: (rows.map rowM ++ Mz)) ∧ Q (.pu (tab (rows.map (·.2)))) []) : GE X ρ M e Q := .mk fun B F H σ Q' W S s => h B F H σ Q' W S fun r M' v F1 H1 hx W1 s1 vx => by
  obtain ⟨l, rows, Mz, rfl, pm, q⟩ := hx
  obtain ⟨F2, s2, W2⟩ := Wd.deep (pre := []) (W1.perm pm)
  have e : ([] ++ rows.map fun d => SD.pu (rowD d.2)) = ((rows.map (·.2)).map rowD).map SD.pu := by
    rw [List.map_map, List.map_map]
    rfl
  rw [e] at W2
  obtain ⟨F3, s3, W3, d⟩ := W2.freeze
  have vx : v = .ref l := vx
  subst vx
  exact s _ [] _ F3 H1 q (W3.sub (List.nil_sublist _)) ((s1.trans s2).trans s3) d
end G

namespace G
/-! ### levels and bounds -/
def midH (v : Int) : Option Int → Int
  | none => v
  | some h => if h < v then h else v
def midL (v : Int) : Option Int → Int
  | none => v
  | some l => if l > v then l else v
def mid (v : Int) (lo hi : Option Int) : Int := midL (midH v hi) lo
def levC (T : Tab) (n : Nat) : Nat → Nat → Int
  | 0, 0 => mid (val T 0 (n - 1)) none none
  | 0, c + 1 => mid (val T 0 (n - 1 - (c + 1))) none (some (levC T n 0 c))
  | i + 1, 0 => mid (val T (i + 1) (n - 1)) (some (levC T n i 0)) none
  | i + 1, c + 1 => mid (val T (i + 1) (n - 1 - (c + 1))) (some (levC T n i (c + 1))) (some (levC T n (i + 1) c))
termination_by i c => (i, c)
def lev (T : Tab) (n i j : Nat) : Int := levC T n i (n - 1 - j)
def loB (T : Tab) (n i j : Nat) : Option Int := if 0 < i then some (lev T n (i - 1) j) else none
def hiB (T : Tab) (n i j : Nat) : Option Int := if j + 1 < n then some (lev T n i (j + 1)) else none
theorem lev_eq (T : Tab) {n i j : Nat} (hj : j < n) : lev T n i j = mid (val T i j) (loB T n i j) (hiB T n i j) := by
  have e : n - 1 - (n - 1 - j) = j := by omega
  unfold lev loB hiB
  cases i with
  | zero =>
    cases hc : n - 1 - j with
    | zero =>
      rw [levC, if_neg (by omega), if_neg (by omega), show n - 1 = j by omega]
    | succ c =>
      rw [levC, if_neg (by omega), if_pos (by omega), show n - 1 - (c + 1) = j by omega]
      unfold lev
      rw [show n - 1 - (j + 1) = c by omega]
  | succ i =>
    cases hc : n - 1 - j with
    | zero =>
      rw [levC, if_pos (by omega), if_neg (by omega), show n - 1 = j by omega]
      unfold lev
      rw [show i + 1 - 1 = i by omega, show n - 1 - j = 0 by omega]
    | succ c =>
      rw [levC, if_pos (by omega), if_pos (by omega), show n - 1 - (c + 1) = j by omega]
      unfold lev
      rw [show i + 1 - 1 = i by omega, hc, show n - 1 - (j + 1) = c by omega]
theorem lev_down (T : Tab) {n i j : Nat} (hj : j < n) : lev T n i j ≤ lev T n (i + 1) j := by
  rw [lev_eq T (i := i + 1) hj]
  unfold mid loB
  rw [if_pos (by omega), show i + 1 - 1 = i by omega]
  generalize midH _ _ = w
  unfold midL
  dsimp only
  split <;> omega
theorem hi_some (T : Tab) {n i j : Nat} (hj : j + 1 < n) : hiB T n i j = some (lev T n i (j + 1)) := by
  unfold hiB
  rw [if_pos hj]
theorem lo_zero (T : Tab) (n j : Nat) : loB T n 0 j = none := by
  unfold loB
  rw [if_neg (by omega)]
theorem lo_succ (T : Tab) (n i j : Nat) : loB T n (i + 1) j = some (lev T n i j) := by
  unfold loB
  rw [if_pos (by omega), show i + 1 - 1 = i by omega]
theorem lev_right (T : Tab) {n j : Nat} (hj : j + 1 < n) : ∀ i, lev T n i j ≤ lev T n i (j + 1)
  | 0 => by
    rw [lev_eq T (i := 0) (j := j) (by omega), hi_some T hj, lo_zero]
    unfold mid midL midH
    dsimp only
    split <;> omega
  | i + 1 => by
    have h1 := lev_right T hj i
    have h2 := lev_down T (i := i) hj
    rw [lev_eq T (i := i + 1) (j := j) (by omega), hi_some T hj, lo_succ]
    unfold mid midL midH
    dsimp only
    split <;> split <;> omega
theorem lev_mem {T : Tab} {n : Nat} (t : IsTab T n) : ∀ (s i j : Nat), i + (n - 1 - j) ≤ s → i < T.length → j < n → lev T n i j ∈ T.flatten
  | s, i, j, hs, hi, hj => by
    have hv := val_in t hi hj
    have h1 : ∀ a, loB T n i j = some a → a ∈ T.flatten := fun a ha => by
      unfold loB at ha
      split at ha
      · next h =>
        injection ha with ha
        rw [← ha]
        match s with
        | 0 => omega
        | s + 1 => exact lev_mem t s (i - 1) j (by omega) (by omega) hj
      · cases ha
    have h2 : ∀ a, hiB T n i j = some a → a ∈ T.flatten := fun a ha => by
      unfold hiB at ha
      split at ha
      · next h =>
        injection ha with ha
        rw [← ha]
        match s with
        | 0 => omega
        | s + 1 => exact lev_mem t s i (j + 1) (by omega) hi h
      · cases ha
    rw [lev_eq T hj]
    generalize loB T n i j = lo at h1
    generalize hiB T n i j = hi at h2
    have h3 : midH (val T i j) hi ∈ T.flatten := by
      cases hi with
      | none => exact hv
      | some h =>
        unfold midH
        dsimp only
        split
        · exact h2 h rfl
        · exact hv
    unfold mid
    cases lo with
    | none => exact h3
    | some l =>
      unfold midL
      dsimp only
      split
      · exact h1 l rfl
      · exact h3
termination_by s => s
/-- a key between the bounds of a place -/
structure Btw (T : Tab) (n : Nat) (k : Int) (i j : Nat) : Prop where
  lo : ∀ a, loB T n i j = some a → a < k
  hi : ∀ a, hiB T n i j = some a → k < a
theorem Btw.lt {T : Tab} {n i j : Nat} {k : Int} (b : Btw T n k i j) (hj : j < n) : lev T n i j < k ↔ val T i j < k := by
  obtain ⟨b1, b2⟩ := b
  rw [lev_eq T hj]
  generalize loB T n i j = lo at b1
  generalize hiB T n i j = hi at b2
  unfold mid
  cases lo with
  | none =>
    cases hi with
    | none => exact Iff.rfl
    | some h =>
      have := b2 h rfl
      unfold midL midH
      dsimp only
      split <;> omega
  | some l =>
    have := b1 l rfl
    cases hi with
    | none =>
      unfold midL midH
      dsimp only
      split <;> omega
    | some h =>
      have := b2 h rfl
      unfold midL midH
      dsimp only
      split <;> split <;> omega
theorem Btw.gt {T : Tab} {n i j : Nat} {k : Int} (b : Btw T n k i j) (hj : j < n) : k < lev T n i j ↔ k < val T i j := by
  obtain ⟨b1, b2⟩ := b
  rw [lev_eq T hj]
  generalize loB T n i j = lo at b1
  generalize hiB T n i j = hi at b2
  unfold mid
  cases lo with
  | none =>
    cases hi with
    | none => exact Iff.rfl
    | some h =>
      have := b2 h rfl
      unfold midL midH
      dsimp only
      split <;> omega
  | some l =>
    have := b1 l rfl
    cases hi with
    | none =>
      unfold midL midH
      dsimp only
      split <;> omega
    | some h =>
      have := b2 h rfl
      unfold midL midH
      dsimp only
      split <;> split <;> omega
theorem Btw.down {T : Tab} {n i j : Nat} {k : Int} (b : Btw T n k i j) (hj : j < n) (hv : val T i j < k) : Btw T n k (i + 1) j := by
  have h := (b.lt hj).mpr hv
  refine ⟨fun a ha => ?_, fun a ha => ?_⟩
  · unfold loB at ha
    rw [if_pos (by omega), show i + 1 - 1 = i by omega] at ha
    injection ha with ha
    omega
  · unfold hiB at ha
    split at ha
    · next hj2 =>
      injection ha with ha
      have h1 := b.hi (lev T n i (j + 1)) (by unfold hiB; rw [if_pos hj2])
      have h2 := lev_down T (i := i) hj2
      omega
    · cases ha
theorem Btw.left {T : Tab} {n i j : Nat} {k : Int} (b : Btw T n k i (j + 1)) (hj : j + 1 < n) (hv : k < val T i (j + 1)) : Btw T n k i j := by
  have h := (b.gt hj).mpr hv
  refine ⟨fun a ha => ?_, fun a ha => ?_⟩
  · unfold loB at ha
    split at ha
    · next hi =>
      injection ha with ha
      have h1 := b.lo (lev T n (i - 1) (j + 1)) (by unfold loB; rw [if_pos hi])
      have h2 := lev_right T hj (i - 1)
      omega
    · cases ha
  · unfold hiB at ha
    rw [if_pos hj] at ha
    injection ha with ha
    omega
theorem go_btw {T : Tab} {n : Nat} {k : Int} : ∀ (f i c : Nat), c ≤ n → (i < T.length → 0 < c → Btw T n k i (c - 1)) → ∀ p ∈ (go T k f i c).1, Btw T n k p.1 p.2
  | 0, i, c, hc, h, p, hp => by simp [go] at hp
  | f + 1, i, c, hc, h, p, hp => by
    by_cases h1 : i < T.length ∧ 0 < c
    · obtain ⟨h1, h2⟩ := h1
      have b := h h1 h2
      rcases Int.lt_trichotomy (val T i (c - 1)) k with hv | hv | hv
      · rw [go_lt h1 h2 hv] at hp
        rcases List.mem_cons.mp hp with e | hp
        · rw [e]; exact b
        · exact go_btw f (i + 1) c hc (fun _ _ => b.down (by omega) hv) p hp
      · rw [go_eq h1 h2 hv] at hp
        rw [List.mem_singleton.mp hp]
        exact b
      · rw [go_gt h1 h2 hv] at hp
        rcases List.mem_cons.mp hp with e | hp
        · rw [e]; exact b
        · refine go_btw f i (c - 1) (by omega) (fun _ h3 => ?_) p hp
          have e : c - 1 = (c - 1 - 1) + 1 := by omega
          rw [e] at b hv
          exact b.left (by omega) hv
    · rw [go_out h1] at hp
      exact absurd hp List.not_mem_nil
theorem run_btw {T : Tab} {n : Nat} {k : Int} {i j : Nat} (t : IsTab T n) (h : (i, j) ∈ (run T n k).1) : Btw T n k i j := by
  have hn := t.npos
  refine go_btw _ 0 n (Nat.le_refl _) (fun _ _ => ⟨fun a ha => ?_, fun a ha => ?_⟩) (i, j) h
  · unfold loB at ha
    rw [if_neg (by omega)] at ha
    cases ha
  · unfold hiB at ha
    rw [if_neg (by omega)] at ha
    cases ha
theorem go_in {T : Tab} {k : Int} : ∀ (f i c : Nat), ∀ p ∈ (go T k f i c).1, i ≤ p.1 ∧ p.1 < T.length ∧ p.2 < c
  | 0, i, c, p, hp => by simp [go] at hp
  | f + 1, i, c, p, hp => by
    by_cases h1 : i < T.length ∧ 0 < c
    · obtain ⟨h1, h2⟩ := h1
      have own : p = (i, c - 1) → i ≤ p.1 ∧ p.1 < T.length ∧ p.2 < c := fun e => by
        rw [e]
        exact ⟨Nat.le_refl _, h1, by show c - 1 < c; omega⟩
      rcases Int.lt_trichotomy (val T i (c - 1)) k with hv | hv | hv
      · rw [go_lt h1 h2 hv] at hp
        rcases List.mem_cons.mp hp with e | hp
        · exact own e
        · have := go_in f (i + 1) c p hp
          omega
      · rw [go_eq h1 h2 hv] at hp
        exact own (List.mem_singleton.mp hp)
      · rw [go_gt h1 h2 hv] at hp
        rcases List.mem_cons.mp hp with e | hp
        · exact own e
        · have := go_in f i (c - 1) p hp
          omega
    · rw [go_out h1] at hp
      exact absurd hp List.not_mem_nil
theorem go_down {T : Tab} {k : Int} {x y : Nat} (hv : val T x y < k) (hx : x + 1 < T.length) : ∀ (f i c : Nat), (T.length - i) + c ≤ f → (x, y) ∈ (go T k f i c).1 → (x + 1, y) ∈ (go T k f i c).1
  | 0, i, c, hf, hp => by simp [go] at hp
  | f + 1, i, c, hf, hp => by
    by_cases h1 : i < T.length ∧ 0 < c
    · obtain ⟨h1, h2⟩ := h1
      by_cases e : (x, y) = (i, c - 1)
      · have e1 : x = i := congrArg Prod.fst e
        have e2 : y = c - 1 := congrArg Prod.snd e
        rw [e1, e2] at hv ⊢
        rw [go_lt h1 h2 hv]
        obtain ⟨f', rfl⟩ : ∃ f', f = f' + 1 := ⟨f - 1, by omega⟩
        obtain ⟨L, eL⟩ := go_head (T := T) (k := k) (f := f') (i := i + 1) (by omega) h2
        rw [eL]
        exact List.mem_cons_of_mem _ List.mem_cons_self
      · rcases Int.lt_trichotomy (val T i (c - 1)) k with hw | hw | hw
        · rw [go_lt h1 h2 hw] at hp ⊢
          exact List.mem_cons_of_mem _ (go_down hv hx f (i + 1) c (by omega) (by rcases List.mem_cons.mp hp with z | z; exact absurd z e; exact z))
        · rw [go_eq h1 h2 hw] at hp
          exact absurd (List.mem_singleton.mp hp) e
        · rw [go_gt h1 h2 hw] at hp ⊢
          exact List.mem_cons_of_mem _ (go_down hv hx f i (c - 1) (by omega) (by rcases List.mem_cons.mp hp with z | z; exact absurd z e; exact z))
    · rw [go_out h1] at hp
      exact absurd hp List.not_mem_nil
theorem go_left {T : Tab} {k : Int} {x y : Nat} (hv : k < val T x (y + 1)) (hx : x < T.length) : ∀ (f i c : Nat), (T.length - i) + c ≤ f → (x, y + 1) ∈ (go T k f i c).1 → (x, y) ∈ (go T k f i c).1
  | 0, i, c, hf, hp => by simp [go] at hp
  | f + 1, i, c, hf, hp => by
    by_cases h1 : i < T.length ∧ 0 < c
    · obtain ⟨h1, h2⟩ := h1
      by_cases e : (x, y + 1) = (i, c - 1)
      · have e1 : x = i := congrArg Prod.fst e
        have e2 : y + 1 = c - 1 := congrArg Prod.snd e
        rw [e1, e2] at hv
        rw [e1, go_gt h1 h2 hv]
        obtain ⟨f', rfl⟩ : ∃ f', f = f' + 1 := ⟨f - 1, by omega⟩
        obtain ⟨L, eL⟩ := go_head (T := T) (k := k) (f := f') (i := i) (c := c - 1) h1 (by omega)
        rw [eL]
        have e3 : c - 1 - 1 = y := by omega
        rw [e3]
        exact List.mem_cons_of_mem _ List.mem_cons_self
      · rcases Int.lt_trichotomy (val T i (c - 1)) k with hw | hw | hw
        · rw [go_lt h1 h2 hw] at hp ⊢
          exact List.mem_cons_of_mem _ (go_left hv hx f (i + 1) c (by omega) (by rcases List.mem_cons.mp hp with z | z; exact absurd z e; exact z))
        · rw [go_eq h1 h2 hw] at hp
          exact absurd (List.mem_singleton.mp hp) e
        · rw [go_gt h1 h2 hw] at hp ⊢
          exact List.mem_cons_of_mem _ (go_left hv hx f i (c - 1) (by omega) (by rcases List.mem_cons.mp hp with z | z; exact absurd z e; exact z))
    · rw [go_out h1] at hp
      exact absurd hp List.not_mem_nil
theorem btw_run {T : Tab} {n : Nat} {k : Int} (t : IsTab T n) (hk : k ∉ T.flatten) : ∀ (s i j : Nat), i + (n - 1 - j) = s → i < T.length → j < n → Btw T n k i j → (i, j) ∈ (run T n k).1
  | 0, i, j, hs, hi, hj, b => by
    obtain ⟨L, e⟩ := run_first (k := k) t
    rw [e, show i = 0 by omega, show j = n - 1 by omega]
    exact List.mem_cons_self
  | s + 1, i, j, hs, hi, hj, b => by
    have down : 0 < i → Btw T n k (i - 1) j → (i, j) ∈ (run T n k).1 := fun h0 b' => by
      have r := btw_run t hk s (i - 1) j (by omega) (by omega) hj b'
      have h1 := b.lo (lev T n (i - 1) j) (by unfold loB; rw [if_pos h0])
      have z := go_down ((b'.lt hj).mp h1) (by omega) _ 0 n (by omega) r
      rw [show i - 1 + 1 = i by omega] at z
      exact z
    have left : j + 1 < n → Btw T n k i (j + 1) → (i, j) ∈ (run T n k).1 := fun h0 b' => by
      have r := btw_run t hk s i (j + 1) (by omega) hi h0 b'
      have h1 := b.hi (lev T n i (j + 1)) (by unfold hiB; rw [if_pos h0])
      exact go_left ((b'.gt h0).mp h1) hi _ 0 n (by omega) r
    have hiOk : ∀ a, j + 1 < n → hiB T n i (j + 1) = some a → k < a := fun a h0 ha => by
      unfold hiB at ha
      split at ha
      · next h2 =>
        injection ha with ha
        have h1 := b.hi (lev T n i (j + 1)) (by unfold hiB; rw [if_pos h0])
        have := lev_right T h2 i
        omega
      · cases ha
    have loOk : ∀ a, 0 < i → loB T n (i - 1) j = some a → a < k := fun a h0 ha => by
      unfold loB at ha
      split at ha
      · next h2 =>
        injection ha with ha
        have h1 := b.lo (lev T n (i - 1) j) (by unfold loB; rw [if_pos h0])
        have := lev_down T (i := i - 1 - 1) hj
        rw [show i - 1 - 1 + 1 = i - 1 by omega] at this
        omega
      · cases ha
    by_cases h0 : 0 < i
    · by_cases h1 : j + 1 < n
      · have hm := lev_mem t _ (i - 1) (j + 1) (Nat.le_refl _) (by omega) h1
        have ne : k ≠ lev T n (i - 1) (j + 1) := fun e => hk (e ▸ hm)
        by_cases hc : k < lev T n (i - 1) (j + 1)
        · refine down h0 ⟨fun a ha => loOk a h0 ha, fun a ha => ?_⟩
          unfold hiB at ha
          rw [if_pos h1] at ha
          injection ha with ha
          omega
        · refine left h1 ⟨fun a ha => ?_, fun a ha => hiOk a h1 ha⟩
          unfold loB at ha
          rw [if_pos h0] at ha
          injection ha with ha
          omega
      · refine down h0 ⟨fun a ha => loOk a h0 ha, fun a ha => ?_⟩
        unfold hiB at ha
        rw [if_neg h1] at ha
        cases ha
    · have h1 : j + 1 < n := by omega
      refine left h1 ⟨fun a ha => ?_, fun a ha => hiOk a h1 ha⟩
      unfold loB at ha
      rw [if_neg h0] at ha
      cases ha
/-! ### doubled values -/
def dbl (T : Tab) : Tab := T.map fun r => r.map (2 * ·)
theorem dbl_is {T : Tab} {n : Nat} (t : IsTab T n) : IsTab (dbl T) n := ⟨by simp [dbl, t.pos], by simp [dbl, t.le], t.npos, t.nle, fun r hr => by
  obtain ⟨r', hr', e⟩ := List.mem_map.mp hr
  rw [← e, List.length_map]
  exact t.rows r' hr'⟩
theorem dbl_len (T : Tab) : (dbl T).length = T.length := List.length_map ..
theorem val_dbl (T : Tab) (i j : Nat) : val (dbl T) i j = 2 * val T i j := by
  unfold val dbl
  simp only [List.getD_eq_getElem?_getD, List.getElem?_map]
  cases h : T[i]? with
  | none => simp
  | some r =>
    simp only [Option.map_some, Option.getD_some, List.getElem?_map]
    cases h2 : r[j]? with
    | none => simp
    | some v => simp
theorem mid_dbl (v : Int) (lo hi : Option Int) : mid (2 * v) (lo.map (2 * ·)) (hi.map (2 * ·)) = 2 * mid v lo hi := by
  unfold mid
  cases lo with
  | none =>
    cases hi with
    | none => rfl
    | some h =>
      simp only [Option.map_some, Option.map_none]
      unfold midL midH
      dsimp only
      split <;> split <;> omega
  | some l =>
    cases hi with
    | none =>
      simp only [Option.map_some, Option.map_none]
      unfold midL midH
      dsimp only
      split <;> split <;> omega
    | some h =>
      simp only [Option.map_some]
      unfold midL midH
      dsimp only
      split <;> split <;> split <;> split <;> omega
theorem lev_dbl (T : Tab) (n : Nat) : ∀ (i c : Nat), levC (dbl T) n i c = 2 * levC T n i c
  | 0, 0 => by
    rw [levC, levC, val_dbl]
    exact mid_dbl _ none none
  | 0, c + 1 => by
    rw [levC, levC, val_dbl, lev_dbl T n 0 c]
    exact mid_dbl _ none (some _)
  | i + 1, 0 => by
    rw [levC, levC, val_dbl, lev_dbl T n i 0]
    exact mid_dbl _ (some _) none
  | i + 1, c + 1 => by
    rw [levC, levC, val_dbl, lev_dbl T n i (c + 1), lev_dbl T n (i + 1) c]
    exact mid_dbl _ (some _) (some _)
termination_by i c => (i, c)
theorem lo_dbl (T : Tab) (n i j : Nat) : loB (dbl T) n i j = (loB T n i j).map (2 * ·) := by
  unfold loB lev
  split
  · rw [lev_dbl]; rfl
  · rfl
theorem hi_dbl (T : Tab) (n i j : Nat) : hiB (dbl T) n i j = (hiB T n i j).map (2 * ·) := by
  unfold hiB lev
  split
  · rw [lev_dbl]; rfl
  · rfl
theorem dbl_even {T : Tab} {v : Int} (h : v ∈ (dbl T).flatten) : ∃ u ∈ T.flatten, v = 2 * u := by
  obtain ⟨r, hr, hv⟩ := List.mem_flatten.mp h
  obtain ⟨r', hr', e⟩ := List.mem_map.mp hr
  rw [← e] at hv
  obtain ⟨u, hu, e2⟩ := List.mem_map.mp hv
  exact ⟨u, List.mem_flatten.mpr ⟨r', hr', hu⟩, e2.symm⟩
/-- the key of a gap, in the table of doubled values -/
def gk (V : List Int) (g : Nat) : Int := if g = 0 then 2 * V.getD 0 0 - 1 else 2 * V.getD (g - 1) 0 + 1
theorem gk_odd (V : List Int) (g : Nat) : ∃ z, gk V g = 2 * z + 1 := by
  unfold gk
  split
  · exact ⟨V.getD 0 0 - 1, by omega⟩
  · exact ⟨V.getD (g - 1) 0, rfl⟩
theorem gk_gt {V : List Int} (up : V.Pairwise (· < ·)) {a g : Nat} (ha : a < V.length) (hg : g ≤ V.length) : 2 * V[a] < gk V g ↔ a + 1 ≤ g := by
  have mono : ∀ {i j : Nat} (h : i < j) (hj : j < V.length), V[i]'(by omega) < V[j] := fun h hj => List.pairwise_iff_getElem.mp up _ _ _ _ h
  unfold gk
  split
  · next h =>
    have h0 : 0 < V.length := by omega
    rw [List.getD_eq_getElem?_getD, List.getElem?_eq_getElem h0, Option.getD_some]
    by_cases e : a = 0
    · subst e
      omega
    · have := mono (i := 0) (j := a) (by omega) ha
      omega
  · next h =>
    have h0 : g - 1 < V.length := by omega
    rw [List.getD_eq_getElem?_getD, List.getElem?_eq_getElem h0, Option.getD_some]
    rcases Nat.lt_trichotomy a (g - 1) with c | c | c
    · have := mono c h0
      omega
    · subst c
      omega
    · have := mono c ha
      omega
theorem gk_lt {V : List Int} (up : V.Pairwise (· < ·)) {a g : Nat} (ha : a < V.length) (hg : g ≤ V.length) : gk V g < 2 * V[a] ↔ g ≤ a := by
  have h := gk_gt up ha hg
  obtain ⟨z, hz⟩ := gk_odd V g
  omega
/-- which keys of gaps look at a place -/
theorem gaps_look {T : Tab} {n i j : Nat} {V : List Int} (t : IsTab T n) (up : V.Pairwise (· < ·)) (hV : ∀ v, v ∈ V ↔ v ∈ T.flatten) (hi : i < T.length) (hj : j < n) :
    ∃ p q, p ≤ V.length ∧ q ≤ V.length ∧ (∀ g, g ≤ V.length → ((i, j) ∈ (run (dbl T) n (gk V g)).1 ↔ p ≤ g ∧ g ≤ q)) ∧ loB T n i j = (if 0 < p then some (V.getD (p - 1) 0) else none) ∧ hiB T n i j = (if q < V.length then some (V.getD q 0) else none) := by
  have t' := dbl_is t
  have look : ∀ g, (i, j) ∈ (run (dbl T) n (gk V g)).1 ↔ Btw (dbl T) n (gk V g) i j := fun g => by
    refine ⟨run_btw t', fun b => btw_run t' (fun hm => ?_) _ i j rfl (by rw [dbl_len]; exact hi) hj b⟩
    obtain ⟨u, _, e⟩ := dbl_even hm
    obtain ⟨z, hz⟩ := gk_odd V g
    omega
  obtain ⟨p, hp, hp1, hp2⟩ : ∃ p, p ≤ V.length ∧ loB T n i j = (if 0 < p then some (V.getD (p - 1) 0) else none) ∧ ∀ g, g ≤ V.length → ((∀ a, loB (dbl T) n i j = some a → a < gk V g) ↔ p ≤ g) := by
    rw [lo_dbl]
    by_cases h0 : 0 < i
    · have e : loB T n i j = some (lev T n (i - 1) j) := by unfold loB; rw [if_pos h0]
      have hm := (hV _).mpr (lev_mem t _ (i - 1) j (Nat.le_refl _) (by omega) hj)
      obtain ⟨a, ha, ea⟩ := List.mem_iff_getElem.mp hm
      refine ⟨a + 1, ha, ?_, fun g hg => ?_⟩
      · rw [e, if_pos (by omega), ← ea, show a + 1 - 1 = a by omega, List.getD_eq_getElem?_getD, List.getElem?_eq_getElem ha, Option.getD_some]
      · rw [e, ← ea, ← gk_gt up ha hg]
        constructor
        · intro h
          exact h _ rfl
        · intro h b hb
          injection hb with hb
          rw [← hb]
          exact h
    · have e : loB T n i j = none := by unfold loB; rw [if_neg h0]
      refine ⟨0, Nat.zero_le _, by rw [e, if_neg (by omega)], fun g hg => ?_⟩
      rw [e]
      exact ⟨fun _ => Nat.zero_le _, fun _ a ha => by cases ha⟩
  obtain ⟨q, hq, hq1, hq2⟩ : ∃ q, q ≤ V.length ∧ hiB T n i j = (if q < V.length then some (V.getD q 0) else none) ∧ ∀ g, g ≤ V.length → ((∀ a, hiB (dbl T) n i j = some a → gk V g < a) ↔ g ≤ q) := by
    rw [hi_dbl]
    by_cases h0 : j + 1 < n
    · have e : hiB T n i j = some (lev T n i (j + 1)) := by unfold hiB; rw [if_pos h0]
      have hm := (hV _).mpr (lev_mem t _ i (j + 1) (Nat.le_refl _) hi h0)
      obtain ⟨a, ha, ea⟩ := List.mem_iff_getElem.mp hm
      refine ⟨a, Nat.le_of_lt ha, ?_, fun g hg => ?_⟩
      · rw [e, if_pos ha, ← ea, List.getD_eq_getElem?_getD, List.getElem?_eq_getElem ha, Option.getD_some]
      · rw [e, ← ea, ← gk_lt up ha hg]
        constructor
        · intro h
          exact h _ rfl
        · intro h b hb
          injection hb with hb
          rw [← hb]
          exact h
    · have e : hiB T n i j = none := by unfold hiB; rw [if_neg h0]
      refine ⟨V.length, Nat.le_refl _, by rw [e, if_neg (by omega)], fun g hg => ?_⟩
      rw [e]
      exact ⟨fun _ => hg, fun _ a ha => by cases ha⟩
  refine ⟨p, q, hp, hq, fun g hg => ?_, hp1, hq1⟩
  rw [look, ← hp2 g hg, ← hq2 g hg]
  exact ⟨fun b => ⟨b.lo, b.hi⟩, fun b => ⟨b.1, b.2⟩⟩
end G

namespace G
open PySem PySem.Spec PyProof.Rows L2
section
variable {X : Cx} {ρ : List SD} {M : Mem} {Q : Kn} {pos : Pos} {elt tg it tg1 it1 : Expr} {ifs ifs1 : List Expr} {scope : Scope} {own : List (Str × Nat)}
theorem ssetlc2 (i : Nat) (t t1 : Tg) (vs1 : List Nat) {y : Str} {py spos : Pos} {D : GD} (hc : X.calm = true) (hN : X.N.Nodup) (hy : X.N[i]? = some y) (hyl : X.env.scope.names.lookup y = some .local)
    (hsw : swapsWith (.ListComp elt [⟨tg, it, ifs, 0⟩, ⟨tg1, it1, ifs1, 0⟩] scope pos) (some (.Name y py)) spos.line X.env = pure true) (ok : BlkOk X.N X.env.scope scope own) (hv : ∀ i ∈ vs1, i ∈ own.map (·.2)) (ht : TgOk X scope tg t) (ht1 : TgOk X scope tg1 t1) (hi : ∀ j ∈ t.ix, j ∈ own.map (·.2)) (hi1 : ∀ j ∈ t1.ix, j ∈ vs1)
    (h : GI X ρ M tg it (LComp2 X scope ρ (own.map (·.2)) vs1 t t1 ifs tg1 it1 ifs1 elt fun r M' => D.nx (ρ.set i r) M'))
    (hs : ∀ x, foldedSetIterable it X.env x = pure x := by intro _; rfl) (hs1 : ∀ env x, foldedSetIterable it1 env x = pure x := by intro _ _; rfl) : GS X ρ M (.Assign [.Name y py] (.ListComp elt [⟨tg, it, ifs, 0⟩, ⟨tg1, it1, ifs1, 0⟩] scope pos) spos) D := .mk fun B F H σ D' W S s => by
  refine wS_of (ps_setLc2 hc hN hy hyl hsw pI ok hv ht (fun _ _ _ _ _ => bT_p) (fun _ _ _ _ _ => bI_p) ht1 (fun _ _ _ _ _ => bT_p) (fun _ _ _ _ _ => bE_p) hs hs1) ?_
  refine lc2_run (Q' := fun v H1 => gName i v σ H1 D'.nx) hi hi1 h W S fun r M' v F' H' q W' s' vv => ?_
  exact s.nx _ _ _ F' H' q W' s' (pset vv i (pMono s' S))
end
theorem asc_uniq : ∀ {l1 l2 : List Int}, l1.Pairwise (· < ·) → l2.Pairwise (· < ·) → (∀ k, k ∈ l1 ↔ k ∈ l2) → l1 = l2 := fun {l1 l2} h1 h2 h => by
  refine sort_uniq (R := fun a b : Int => a < b) (fun a b g1 g2 => by omega) ?_ h1 h2
  have n1 : l1.Nodup := h1.imp fun {a b} h e => by omega
  have n2 : l2.Nodup := h2.imp fun {a b} h e => by omega
  exact (List.perm_ext_iff_of_nodup n1 n2).mpr h
theorem mem2_all {T : Tab} {n : Nat} (t : IsTab T n) (k : Int) : k ∈ mem2 T.length (fun _ => n) (fun _ _ => true) (val T) ↔ k ∈ T.flatten := by
  unfold mem2
  constructor
  · intro h
    obtain ⟨i, hi, h⟩ := List.mem_flatMap.mp h
    obtain ⟨j, hj, e⟩ := List.mem_map.mp h
    rw [← e]
    exact val_in t (List.mem_range.mp hi) (List.mem_range.mp (List.mem_filter.mp hj).1)
  · intro h
    obtain ⟨r, hr, hk⟩ := List.mem_flatten.mp h
    obtain ⟨i, hi, e⟩ := List.mem_iff_getElem.mp hr
    obtain ⟨j, hj, e2⟩ := List.mem_iff_getElem.mp hk
    have hjn : j < n := by rw [← t.rows r hr]; exact hj
    refine List.mem_flatMap.mpr ⟨i, List.mem_range.mpr hi, List.mem_map.mpr ⟨j, List.mem_filter.mpr ⟨List.mem_range.mpr hjn, rfl⟩, ?_⟩⟩
    rw [t.val hi hjn]
    subst e
    exact e2
def spotsTo (m n : Nat) : List (Nat × Nat) := (List.range m).flatMap fun i => (List.range n).map fun j => (i, j)
theorem spots_succ (m n : Nat) : spotsTo (m + 1) n = spotsTo m n ++ (List.range n).map fun j => (m, j) := by
  unfold spotsTo
  rw [List.range_succ, List.flatMap_append]
  simp
theorem spots_len (m n : Nat) : (spotsTo m n).length = m * n := by
  induction m with
  | zero => simp [spotsTo]
  | succ m ih => rw [spots_succ, List.length_append, ih, List.length_map, List.length_range, Nat.succ_mul]
theorem spots_in {m n : Nat} {p : Nat × Nat} (h : p ∈ spotsTo m n) : p.1 < m ∧ p.2 < n := by
  obtain ⟨i, hi, h⟩ := List.mem_flatMap.mp h
  obtain ⟨j, hj, e⟩ := List.mem_map.mp h
  subst e
  exact ⟨List.mem_range.mp hi, List.mem_range.mp hj⟩
theorem fm2_spots (m n : Nat) : fm2 m (fun _ => n) (fun _ _ => true) (fun i j => pld (i, j)) = (spotsTo m n).map pld := by
  unfold fm2 spotsTo
  rw [List.map_flatMap]
  congr 1
  funext i
  rw [fm_all, List.map_map]
  rfl
/-- the keys of the gaps of doubled values -/
def gkL (V : List Int) : List Int := (2 * V.getD 0 0 - 1) :: V.map fun v => 2 * v + 1
theorem gkL_len (V : List Int) : (gkL V).length = V.length + 1 := by simp [gkL]
theorem gkL_at (V : List Int) {g : Nat} (h : g ≤ V.length) : (gkL V).getD g 0 = gk V g := by
  unfold gkL gk
  cases g with
  | zero => rfl
  | succ g =>
    have hg : g < V.length := h
    simp [List.getD_eq_getElem?_getD, hg]
end G

namespace G
open PySem PySem.Spec PyProof.Rows L2
/-! ### data of bounded size: what == and repr ask -/
structure Gd (k w : Nat) (d : PyData) : Prop where
  lay : d.canLay0 = true
  short : d.intsShort 61 = true
  dep : d.depth ≤ k
  wei : d.weight ≤ w
  shw : d.showable = true
abbrev IB (i : Int) : Prop := i.natAbs < 10 ^ 60
theorem gd_int {i : Int} (h : IB i) : Gd 0 200 (.int i) := by
  have hb : i.natAbs.log2 < 200 := by
    by_cases z : i.natAbs = 0
    · rw [z]; decide
    · exact (Nat.log2_lt z).2 (Nat.lt_trans h (by decide))
  refine ⟨by simp [PyData.canLay0], ?_, by simp [PyData.depth], ?_, by simp only [PyData.showable]; exact decide_eq_true (by omega)⟩
  · have e := int_text_length_le10 (k := 60) (by decide) h
    simp only [PyData.intsShort, decide_eq_true_eq]
    show (Str.ofString (toString i)).length ≤ 61
    rw [PySem.ofString_length]
    exact e
  · simp only [PyData.weight]
    split
    · omega
    · omega
theorem gd_bool (b : Bool) : Gd 0 200 (.bool b) := ⟨by simp [PyData.canLay0], by simp [PyData.intsShort], by simp [PyData.depth], by simp [PyData.weight], by simp [PyData.showable]⟩
theorem gd_none : Gd 0 200 .none := ⟨by simp [PyData.canLay0], by simp [PyData.intsShort], by simp [PyData.depth], by simp [PyData.weight], by simp [PyData.showable]⟩
theorem gd_all {k w : Nat} : ∀ {ds : List PyData}, (∀ d ∈ ds, Gd k w d) → PyData.canLayAll0 ds = true ∧ PyData.intsShortAll 61 ds = true ∧ PyData.depthAll ds ≤ k ∧ PyData.weightAll ds ≤ ds.length * (w + 1) ∧ PyData.showableAll ds = true
  | [], _ => ⟨rfl, rfl, Nat.zero_le _, Nat.zero_le _, rfl⟩
  | d :: ds, h => by
    obtain ⟨h1, h2, h3, h4, h5⟩ := h d List.mem_cons_self
    obtain ⟨g1, g2, g3, g4, g5⟩ := gd_all fun e he => h e (List.mem_cons_of_mem _ he)
    refine ⟨by simp only [PyData.canLayAll0, h1, g1, Bool.and_self], by simp only [PyData.intsShortAll, h2, g2, Bool.and_self], by simp only [PyData.depthAll]; omega, ?_, by simp only [PyData.showableAll, h5, g5, Bool.and_self]⟩
    simp only [PyData.weightAll, List.length_cons, Nat.succ_mul]
    omega
theorem gd_list {k w n : Nat} {ds : List PyData} (h : ∀ d ∈ ds, Gd k w d) (hl : ds.length ≤ n) : Gd (k + 1) (n * (w + 1)) (.list ds) := by
  obtain ⟨h1, h2, h3, h4, h5⟩ := gd_all h
  exact ⟨by simp only [PyData.canLay0, h1], by simp only [PyData.intsShort, h2], by simp only [PyData.depth]; omega, by simp only [PyData.weight]; exact Nat.le_trans h4 (Nat.mul_le_mul_right _ hl), by simp only [PyData.showable, h5]⟩
theorem gd_tuple {k w n : Nat} {ds : List PyData} (h : ∀ d ∈ ds, Gd k w d) (hl : ds.length ≤ n) : Gd (k + 1) (n * (w + 1)) (.tuple ds) := by
  obtain ⟨h1, h2, h3, h4, h5⟩ := gd_all h
  exact ⟨by simp only [PyData.canLay0, h1], by simp only [PyData.intsShort, h2], by simp only [PyData.depth]; omega, by simp only [PyData.weight]; exact Nat.le_trans h4 (Nat.mul_le_mul_right _ hl), by simp only [PyData.showable, h5]⟩
theorem Gd.up {k w k' w' : Nat} {d : PyData} (h : Gd k w d) (hk : k ≤ k') (hw : w ≤ w') : Gd k' w' d := ⟨h.lay, h.short, Nat.le_trans h.dep hk, Nat.le_trans h.wei hw, h.shw⟩
theorem Gd.shaped {k w : Nat} {d : PyData} (h : Gd k w d) (hk : k ≤ 64) : SeqAt.shaped d = true := by
  unfold SeqAt.shaped
  rw [h.lay, Bool.true_and]
  exact decide_eq_true (Nat.le_trans h.dep hk)
theorem Gd.shows {k w : Nat} {d : PyData} (h : Gd k w d) (hk : k ≤ 20) (hw : w ≤ 200000) : Shows d := by
  refine ⟨h.shw, PyData.hasDict_of_canLay d h.lay, Nat.le_trans h.dep hk, ?_⟩
  have z := PyData.shown_le 61 (by decide) d (PyData.leavesShort_of_canLay0 61 d h.lay h.short)
  have l := h.wei
  rw [sizeLine_eq]
  omega
end G

namespace G
open PySem PySem.Spec PyProof.Rows L2
/-- values of a drawn table -/
abbrev VBd (ns : List Int) : Prop := ∀ v ∈ ns, v.natAbs ≤ 10 ^ 40
/-! ### calls by keywords -/
section
variable {X : Cx} {ρ : List SD} {M : Mem} {Q : Kn} {pos p : Pos} {kw : Keyword} {kws : List Keyword} {k : Nat} {x : Str} {st : Stmt} {ps ks : List Str} {S : GSpec} {g : {α : Type} → List α → List α}
theorem gcalK (C : Cal X.prog X.w X.K X.mg X.base k x st ps S) (hgd : X.A.guards = some []) (hr : Room k X.A) (hb : ∀ f fd, Fun X.K x x st f fd → KwB X.K fd ps ks g)
    (h : GK X ρ M (kw :: kws) fun rs M1 => rs.length = ks.length ∧ S (g rs) [] fun r M' => Q r (M' ++ M1)) (hg : Gl X x := by rfl) (hdb : (x == ("__debug__" : Str)) = false := by decide)
    (hall : (backToKw pos (keywordEach (kw :: kws) X.env)).all (·.1.isSome) = true := by rfl) (hks : (backToKw pos (keywordEach (kw :: kws) X.env)).filterMap (·.1) = ks := by rfl)
    (hpl : ((backTo pos (starEach [] X.env)).any (·.1) || (backToKw pos (keywordEach (kw :: kws) X.env)).any (·.1.isNone)) = false := by rfl) : GE X ρ M (.Call (.Name x p) [] (kw :: kws) pos) Q := by
  obtain ⟨f, fd, F, m, b, G⟩ := C.ex
  exact gcallK G hgd hr m F.kp (hb f fd F) (.mk fun B F H σ Q' W S' s => h B F H σ Q' W S' fun rs M1 vs F1 H1 hx W1 s1 vx => s rs M1 vs F1 H1 ⟨hx.1, [], M1, .refl _, hx.2⟩ W1 s1 vx) hg hdb hall hks hpl
end
def swp {α : Type} : List α → List α
  | [a, b] => [b, a]
  | l => l
theorem swp_rel {α β : Type} {R : α → β → Prop} {xs : List α} {ys : List β} (hl : xs.length = 2) (h : Paired R xs ys) : Paired R (swp xs) (swp ys) := by
  match xs, hl, h with
  | [a, b], _, .cons h1 (.cons h2 .nil) => exact .cons h2 (.cons h1 .nil)
/-! ### what is shown -/
theorem ib_nat {n : Nat} (h : n ≤ 1000) : IB (n : Int) := by
  show (n : Int).natAbs < 10 ^ 60
  rw [Int.natAbs_natCast]
  exact Nat.lt_of_le_of_lt h (by decide)
theorem ib_vb {v : Int} (h : v.natAbs ≤ 10 ^ 40) : IB v := Nat.lt_of_le_of_lt h (by decide)
theorem gd_en {p : Int × Int} (h1 : IB p.1) (h2 : IB p.2) : Gd 1 402 (enD p) := gd_tuple (k := 0) (w := 200) (n := 2) (fun d hd => by
  rcases List.mem_cons.mp hd with e | hd
  · rw [e]; exact gd_int h1
  · rw [List.mem_singleton.mp hd]; exact gd_int h2) (Nat.le_refl 2)
theorem gd_ints {L : List Int} (h : ∀ v ∈ L, IB v) (hl : L.length ≤ 64) : Gd 2 25792 (.list (L.map .int)) := (gd_list (k := 0) (w := 200) (n := 64) (fun d hd => by
  obtain ⟨v, hv, e⟩ := List.mem_map.mp hd
  rw [← e]
  exact gd_int (h v hv)) (by rw [List.length_map]; exact hl)).up (by decide) (by decide)
theorem gd_bools {L : List Bool} (hl : L.length ≤ 64) : Gd 2 25792 (.list (L.map .bool)) := (gd_list (k := 0) (w := 200) (n := 64) (fun d hd => by
  obtain ⟨v, hv, e⟩ := List.mem_map.mp hd
  rw [← e]
  exact gd_bool v) (by rw [List.length_map]; exact hl)).up (by decide) (by decide)
theorem gd_ens {L : List (Int × Int)} (h : ∀ p ∈ L, IB p.1 ∧ IB p.2) (hl : L.length ≤ 64) : Gd 2 25792 (.list (L.map enD)) := gd_list (k := 1) (w := 402) (n := 64) (fun d hd => by
  obtain ⟨v, hv, e⟩ := List.mem_map.mp hd
  rw [← e]
  exact gd_en (h v hv).1 (h v hv).2) (by rw [List.length_map]; exact hl)
theorem gd_pls {L : List (Nat × Nat)} (h : ∀ p ∈ L, p.1 ≤ 8 ∧ p.2 ≤ 8) (hl : L.length ≤ 64) : Gd 2 25792 (.list (L.map plD)) := by
  have z := gd_ens (L := L.map fun p => ((p.1 : Int), (p.2 : Int))) (fun p hp => by
    obtain ⟨q, hq, e⟩ := List.mem_map.mp hp
    rw [← e]
    have := h q hq
    exact ⟨ib_nat (by omega), ib_nat (by omega)⟩) (by rw [List.length_map]; exact hl)
  rw [List.map_map] at z
  exact z
theorem gd_three {a b c : PyData} (ha : Gd 2 25792 a) (hb : Gd 2 25792 b) (hc : Gd 2 25792 c) : Shows (.list [a, b, c]) := (gd_list (k := 2) (w := 25792) (n := 3) (ds := [a, b, c]) (fun d hd => by
  rcases List.mem_cons.mp hd with e | hd
  · rw [e]; exact ha
  rcases List.mem_cons.mp hd with e | hd
  · rw [e]; exact hb
  · rw [List.mem_singleton.mp hd]; exact hc) (Nat.le_refl 3)).shows (by decide) (by decide)
theorem shows_tab {T : Tab} {n : Nat} (t : IsTab T n) (vb : VBd T.flatten) : Shows (tab T) := (gd_list (k := 1) (w := 1608) (n := 8) (fun d hd => by
  obtain ⟨r, hr, e⟩ := List.mem_map.mp hd
  rw [← e]
  exact gd_list (k := 0) (w := 200) (n := 8) (fun d hd => by
    obtain ⟨v, hv, e⟩ := List.mem_map.mp hd
    rw [← e]
    exact gd_int (ib_vb (vb v (List.mem_flatten.mpr ⟨r, hr, hv⟩)))) (by rw [List.length_map, t.rows r hr]; exact t.nle)) (by rw [List.length_map]; exact t.le)).shows (by decide) (by decide)
theorem paired_pu (M : Mem) : ∀ ds : List PyData, Paired (MD M) (ds.map SD.pu) ds
  | [] => .nil
  | d :: ds => .cons (.pu d) (paired_pu M ds)
theorem md_lst {M : Mem} {l : Addr} {ds : List PyData} (h : (l, MO.lst (ds.map SD.pu)) ∈ M) : MD M (.rf (.ref l)) (.list ds) := .mem h (paired_pu M ds)
theorem same_no {x : Str} : (!decide (x = x)) = false := by simp
/-- where a search ends -/
theorem go_small {T : Tab} {k : Int} : ∀ (f i c : Nat), i ≤ 8 → c ≤ 8 → T.length ≤ 8 → IB (go T k f i c).2.1 ∧ IB (go T k f i c).2.2
  | 0, i, c, h1, h2, h3 => ⟨ib_nat (by omega), by show ((c : Int) - 1).natAbs < 10 ^ 60; exact Nat.lt_of_le_of_lt (show ((c : Int) - 1).natAbs ≤ 9 by omega) (by decide)⟩
  | f + 1, i, c, h1, h2, h3 => by
    by_cases h : i < T.length ∧ 0 < c
    · obtain ⟨h4, h5⟩ := h
      rcases Int.lt_trichotomy (val T i (c - 1)) k with hv | hv | hv
      · rw [go_lt h4 h5 hv]
        exact go_small f (i + 1) c (by omega) h2 h3
      · rw [go_eq h4 h5 hv]
        exact ⟨ib_nat (by omega), by show ((c : Int) - 1).natAbs < 10 ^ 60; exact Nat.lt_of_le_of_lt (show ((c : Int) - 1).natAbs ≤ 9 by omega) (by decide)⟩
      · rw [go_gt h4 h5 hv]
        exact go_small f i (c - 1) h1 (by omega) h3
    · rw [go_out h]
      exact ⟨ib_nat (by omega), by show ((c : Int) - 1).natAbs < 10 ^ 60; exact Nat.lt_of_le_of_lt (show ((c : Int) - 1).natAbs ≤ 9 by omega) (by decide)⟩
theorem run_small {T : Tab} {n : Nat} (k : Int) (t : IsTab T n) : IB (run T n k).2.1 ∧ IB (run T n k).2.2 := go_small _ 0 n (by omega) t.nle t.le
theorem shows_two {d : PyData} {k w : Nat} (h : Gd k w d) (hk : k + 1 ≤ 20) (hw : 2 * (w + 1) ≤ 200000) : Shows (.list [d, d]) := (gd_list (k := k) (w := w) (n := 2) (ds := [d, d]) (fun e he => by
  rcases List.mem_cons.mp he with z | he
  · rw [z]; exact h
  · rw [List.mem_singleton.mp he]; exact h) (Nat.le_refl 2)).shows hk hw
theorem paired_md2 {M : Mem} {a b : SD} {d e : PyData} (h1 : MD M a d) (h2 : MD M b e) : Paired (MD M) [a, b] [d, e] := .cons h1 (.cons h2 .nil)
end G

namespace G
open PySem PySem.Spec PyProof.Rows L2
section
variable {X : Cx} {ρ : List SD} {M : Mem} {Q : Kn} {pos : Pos} {a b e : Expr}
theorem gmaxl {p : Pos} (hc : X.calm = true) (hm : X.mg "max" = none) (h : GE X ρ M e fun x M1 => ∃ ns, LV M1 x (pints ns) ∧ 0 < ns.length ∧ ∀ m, m ∈ ns → (∀ y, y ∈ ns → y ≤ m) → Q (.pu (.int m)) M1) (hg : Gl X "max" := by rfl) (he : starEach [e] X.env = [(false, eval e X.env)] := by rfl) : GE X ρ M (.Call (.Name "max" p) [e] [] pos) Q :=
  gcb (cr_max hc) hm PyProof.Rows.boot_max (acons (h.mono fun x M1 ⟨ns, lv, h0, q⟩ => anil fun B F H vs Q' W hvs s => by
    obtain ⟨v, rfl, hv⟩ := p1 hvs
    obtain ⟨p, ws, rfl, hp, pr⟩ := lv.at W hv
    have ew := ints_of pr
    subst ew
    exact ⟨p, ns, rfl, .of hp, h0, fun m h1 h2 => s _ M1 _ F H (q m h1 h2) W (Same.refl F) (.int _)⟩) he) hg (he := he)
theorem gminl {p : Pos} (hc : X.calm = true) (hm : X.mg "min" = none) (h : GE X ρ M e fun x M1 => ∃ ns, LV M1 x (pints ns) ∧ 0 < ns.length ∧ ∀ m, m ∈ ns → (∀ y, y ∈ ns → m ≤ y) → Q (.pu (.int m)) M1) (hg : Gl X "min" := by rfl) (he : starEach [e] X.env = [(false, eval e X.env)] := by rfl) : GE X ρ M (.Call (.Name "min" p) [e] [] pos) Q :=
  gcb (cr_min hc) hm PyProof.Rows.boot_min (acons (h.mono fun x M1 ⟨ns, lv, h0, q⟩ => anil fun B F H vs Q' W hvs s => by
    obtain ⟨v, rfl, hv⟩ := p1 hvs
    obtain ⟨p, ws, rfl, hp, pr⟩ := lv.at W hv
    have ew := ints_of pr
    subst ew
    exact ⟨p, ns, rfl, .of hp, h0, fun m h1 h2 => s _ M1 _ F H (q m h1 h2) W (Same.refl F) (.int _)⟩) he) hg (he := he)
theorem glistr3 {p p2 cpos : Pos} (hc : X.calm = true) (hm : X.mg "list" = none) (hm2 : X.mg "range" = none)
    (h : GE X ρ M a fun x M1 => ∃ i, x = .pu (.int i) ∧ GE X ρ M1 b fun y M2 => ∃ j, y = .pu (.int j) ∧ RgOk i j ∧ ∀ l, Q (.rf (.ref l)) ((l, .lst (pints ((List.range (j - i).toNat).map fun k : Nat => i + (k : Int)))) :: M2))
    (hg : Gl X "list" := by rfl) (hg2 : Gl X "range" := by rfl) (na : starEach [a, b] X.env = (false, eval a X.env) :: starEach [b] X.env := by rfl)
    (nb : starEach [b] X.env = (false, eval b X.env) :: starEach [] X.env := by rfl) (hp : (backTo cpos (starEach [b] X.env)).any (·.1) = false := by rfl)
    (he2 : starEach [.Call (.Name "range" p2) [a, b] [] cpos] X.env = [(false, eval (.Call (.Name "range" p2) [a, b] [] cpos) X.env)] := by rfl) : GE X ρ M (.Call (.Name "list" p) [.Call (.Name "range" p2) [a, b] [] cpos] [] pos) Q := .mk fun B F H σ Q' W S s => by
  refine wE_of (pe_listRg hc hg hm (prg_2 hg2 hm2 pE pE na nb hp) he2) (h B F H σ _ W S fun x M1 v F1 H1 hx W1 s1 vx => ?_)
  obtain ⟨i, rfl, hx⟩ := hx
  refine hx B F1 H1 σ _ W1 (pMono s1 S) fun y M2 w F2 H2 hy W2 s2 wy => ?_
  obtain ⟨j, rfl, hn, q⟩ := hy
  have vx : Dt F2 v (.int i) := vx.mono s2
  have wy : Dt F2 w (.int j) := wy
  cases vx
  cases wy
  refine ⟨i, j, rfl, rfl, hn, fun d hd => ?_⟩
  rw [rgV_ints2]
  exact s _ _ _ F2 _ (q d) (W2.newl hd (of_ints _)) (s1.trans s2) rfl
end
theorem pick4q (a b c d : Int) (n : Nat) : ∃ q, (q = a ∨ q = b ∨ q = c ∨ q = d) ∧ atI [SD.pu (.int a), .pu (.int b), .pu (.int c), .pu (.int d)] ((n : Int) % 4) = some (.pu (.int q)) := by
  obtain ⟨r, e, hr⟩ : ∃ r : Nat, (n : Int) % 4 = r ∧ r < 4 := ⟨n % 4, by omega, by omega⟩
  rw [e]
  obtain rfl | rfl | rfl | rfl : r = 0 ∨ r = 1 ∨ r = 2 ∨ r = 3 := by omega
  · exact ⟨a, .inl rfl, rfl⟩
  · exact ⟨b, .inr (.inl rfl), rfl⟩
  · exact ⟨c, .inr (.inr (.inl rfl)), rfl⟩
  · exact ⟨d, .inr (.inr (.inr rfl)), rfl⟩
theorem pick5q (a b c d f : Int) (n : Nat) : ∃ q, (q = a ∨ q = b ∨ q = c ∨ q = d ∨ q = f) ∧ atI [SD.pu (.int a), .pu (.int b), .pu (.int c), .pu (.int d), .pu (.int f)] ((n : Int) % 5) = some (.pu (.int q)) := by
  obtain ⟨r, e, hr⟩ : ∃ r : Nat, (n : Int) % 5 = r ∧ r < 5 := ⟨n % 5, by omega, by omega⟩
  rw [e]
  obtain rfl | rfl | rfl | rfl | rfl : r = 0 ∨ r = 1 ∨ r = 2 ∨ r = 3 ∨ r = 4 := by omega
  · exact ⟨a, .inl rfl, rfl⟩
  · exact ⟨b, .inr (.inl rfl), rfl⟩
  · exact ⟨c, .inr (.inr (.inl rfl)), rfl⟩
  · exact ⟨d, .inr (.inr (.inr (.inl rfl))), rfl⟩
  · exact ⟨f, .inr (.inr (.inr (.inr rfl))), rfl⟩
end G

namespace G
open PySem PySem.Spec PyProof.Rows L2
abbrev Hld (L M : Mem) : Prop := ∃ Mz, List.Perm M (L ++ Mz)
theorem gbhld {X : Cx} {ρ : List SD} {M L : Mem} {sts : List Stmt} {D : GD} (h : Hld L M) (q : GB X ρ L sts D) : GB X ρ M sts D := by
  obtain ⟨Mz, hp⟩ := h
  exact gbperm hp (gbforget (List.sublist_append_left _ _) q)
theorem gehld {X : Cx} {ρ : List SD} {M L : Mem} {e : Expr} {Q : Kn} (h : Hld L M) (q : GE X ρ L e Q) : GE X ρ M e Q := by
  obtain ⟨Mz, hp⟩ := h
  exact geperm hp (gforget (List.sublist_append_left _ _) q)
theorem hld_refl (L : Mem) : Hld L L := ⟨[], by rw [List.append_nil]⟩
/-- a list of lists is frozen as a whole, the others stay -/
theorem gzk {X : Cx} {ρ : List SD} {M : Mem} {Q : Kn} {e : Expr} (h : GE X ρ M e fun r M' => ∃ (l : Addr) (rows : List (Addr × List Int)) (Mz : Mem), r = .rf (.ref l) ∧ M'.Perm ((l, .lst (rows.map rowR)) :: (rows.map rowM ++ Mz)) ∧ Q (.pu (tab (rows.map (·.2)))) Mz) : GE X ρ M e Q := .mk fun B F H σ Q' W S s => h B F H σ Q' W S fun r M' v F1 H1 hx W1 s1 vx => by
  obtain ⟨l, rows, Mz, rfl, pm, q⟩ := hx
  obtain ⟨F2, s2, W2⟩ := Wd.deep (pre := []) (W1.perm pm)
  have e : ([] ++ rows.map fun d => SD.pu (rowD d.2)) = ((rows.map (·.2)).map rowD).map SD.pu := by
    rw [List.map_map, List.map_map]
    rfl
  rw [e] at W2
  obtain ⟨F3, s3, W3, d⟩ := W2.freeze
  have vx : v = .ref l := vx
  subst vx
  exact s _ Mz _ F3 H1 q W3 ((s1.trans s2).trans s3) d
theorem md_ints' {M : Mem} : ∀ r : List Int, Paired (MD M) (pints r) (r.map PyData.int)
  | [] => .nil
  | v :: r => .cons (.pu _) (md_ints' r)
theorem md_rows {M : Mem} : ∀ {rows : List (Addr × List Int)}, (∀ d ∈ rows, rowM d ∈ M) → Paired (MD M) (rows.map rowR) (rows.map fun d => rowD d.2)
  | [], _ => .nil
  | d :: rows, h => .cons (.mem (h d List.mem_cons_self) (md_ints' d.2)) (md_rows fun e he => h e (List.mem_cons_of_mem _ he))
theorem shaped_tab (T : Tab) : SeqAt.shaped (tab T) = true := by
  have h1 : ∀ r : List Int, PyData.canLayAll0 (r.map .int) = true ∧ PyData.depthAll (r.map .int) ≤ 1 := by
    intro r
    induction r with
    | nil => exact ⟨rfl, Nat.zero_le _⟩
    | cons p L ih => exact ⟨by simp [PyData.canLayAll0, PyData.canLay0, ih.1], by simp only [List.map_cons, PyData.depthAll, PyData.depth]; have := ih.2; omega⟩
  have h2 : PyData.canLayAll0 (T.map rowD) = true ∧ PyData.depthAll (T.map rowD) ≤ 2 := by
    induction T with
    | nil => exact ⟨rfl, Nat.zero_le _⟩
    | cons r T ih => exact ⟨by simp [PyData.canLayAll0, PyData.canLay0, ih.1, (h1 r).1], by simp only [List.map_cons, PyData.depthAll, PyData.depth]; have := ih.2; have := (h1 r).2; omega⟩
  exact shaped_of 2 (by decide) h2.1 h2.2
theorem tab_nil (T : Tab) : PyData.eqv (tab T) (.list []) = decide (T = []) := by
  cases T with
  | nil => rfl
  | cons r T => simp [PyData.eqv, PyData.eqvAll]
theorem repL_one (n : Nat) (v : Int) : repL n [SD.pu (.int v)] = pints (List.replicate n v) := by
  unfold repL
  induction n with
  | zero => rfl
  | succ n ih => rw [List.replicate_succ, List.flatten_cons, ih, List.replicate_succ]; rfl
theorem cutL_sub {α : Type} {L : List α} {i j : Option Int} : ∀ v ∈ cutL L i j, v ∈ L := fun v hv => List.mem_of_mem_drop (List.mem_of_mem_take hv)
theorem rows_cut {α : Type} (rows : List α) {i : Nat} (h : i < rows.length) : ∃ R1 R2, rows = R1 ++ rows[i] :: R2 ∧ R1.length = i := ⟨rows.take i, rows.drop (i + 1), by rw [List.getElem_cons_drop, List.take_append_drop], by rw [List.length_take]; omega⟩
end G

namespace G
open PySem PySem.Spec PyProof.Rows L2
theorem pints_len' (ns : List Int) : (pints ns).length = ns.length := List.length_map ..
theorem pints_at' {ns : List Int} {i : Nat} (h : i < ns.length) : (pints ns)[i]? = some (.pu (.int ns[i])) := by rw [List.getElem?_map, List.getElem?_eq_getElem h]; rfl
theorem pints_app' (a b : List Int) : pints (a ++ b) = pints a ++ pints b := List.map_append
theorem pints_cut' (L : List Int) (i j : Nat) : ((pints L).drop i).take j = pints ((L.drop i).take j) := by
  unfold pints
  rw [List.map_take, List.map_drop]
theorem pints_pu' (L : List Int) : pints L = (L.map PyData.int).map SD.pu := by
  rw [List.map_map]
  rfl
section
variable {X : Cx} {ρ : List SD} {M : Mem} {Q : Kn} {QT : Bool → Mem → Prop} {pos : Pos} {a b e : Expr} {rest : List Expr}
/-! ### truth of data -/
def dTru : PyData → Bool
  | .none => false
  | .bool b => b
  | .int i => i != 0
  | .str x => (x.length : Int) != 0
  | .list ds => !ds.isEmpty
  | .tuple ds => !ds.isEmpty
  | _ => false
def dTruOk : PyData → Prop
  | .str x => x.length ≤ sizeLine
  | .dict _ => False
  | _ => True
theorem emp_of {F : Hp} {vs : List V} {ds : List PyData} (h : DtA F vs ds) : (!ds.isEmpty) = !vs.isEmpty := by cases h <;> rfl
theorem tru_of {K : PySem.W.Frag} {B : Bs} {F H : Hp} {v : V} {d : PyData} (W : Wd B F H M) (h : Dt F v d) (ok : dTruOk d) : TruV K v H (dTru d) := by
  cases h with
  | non => exact rfl
  | bl b => exact rfl
  | int i => exact rfl
  | str x => exact ⟨ok, rfl⟩
  | lst h1 h2 => exact .inl ⟨_, .of (W.fh _ _ h1), emp_of h2⟩
  | tup h1 h2 => exact .inr (.inl ⟨_, .of (W.fh _ _ h1), emp_of h2⟩)
  | dic _ => exact ok.elim
/-- a or b .., a's truth known -/
theorem gorT (h : GE X ρ M a fun x M1 => ∃ d, x = .pu d ∧ dTruOk d ∧ if dTru d = true then Q x M1 else GE X ρ M1 (.BoolOp .Or (b :: rest) pos) Q) : GE X ρ M (.BoolOp .Or (a :: b :: rest) pos) Q := .mk fun B F H σ Q' W S s => by
  refine wE_of (pe_orT pE pE) (h B F H σ _ W S fun r M1 v F1 H1 hx W1 s1 vx => ?_)
  obtain ⟨d, rfl, ok, hx⟩ := hx
  have vx : Dt F1 v d := vx
  refine ⟨dTru d, tru_of W1 vx ok, ?_⟩
  cases hk : dTru d with
  | true =>
    rw [hk] at hx
    exact iteT (s _ M1 v F1 H1 hx W1 s1 vx)
  | false =>
    rw [hk] at hx
    exact iteF ((show GE X ρ M1 _ Q from hx) B F1 H1 σ Q' W1 (pMono s1 S) (s.mono s1))
/-- data as a test -/
theorem ttru (h : GE X ρ M e fun x M1 => ∃ d, x = .pu d ∧ dTruOk d ∧ QT (dTru d) M1) (he : ∀ whole, isTrue e X.env whole = (do let v ← whole; standAt e.pos; holding [v] (truthy v)) := by intro _; rfl) : GT X ρ M e QT := .mk fun B F H σ Q' W S s => by
  refine wT_of (pt_truth pE he) (h B F H σ _ W S fun r M1 v F1 H1 hx W1 s1 vx => ?_)
  obtain ⟨d, rfl, ok, hx⟩ := hx
  exact ⟨dTru d, tru_of W1 vx ok, s _ M1 F1 H1 hx W1 s1⟩

/-! ### a block beside lists that it does not know -/
theorem gbframe {Ma Mr : Mem} {sts : List Stmt} {D1 D : GD} (h : GB X ρ Ma sts D1) (h1 : ∀ ρ' M', D1.nx ρ' M' → D.nx ρ' (M' ++ Mr)) (h2 : ∀ r M', D1.rt r M' → D.rt r (M' ++ Mr)) (h3 : ∀ ρ' M', D1.bk ρ' M' → D.bk ρ' (M' ++ Mr)) (h4 : ∀ ρ' M', D1.ct ρ' M' → D.ct ρ' (M' ++ Mr)) : GB X ρ (Ma ++ Mr) sts D := .mk fun B F H σ D' W S s =>
  h (here F H Ma) F H σ D' (W.sub (List.sublist_append_left Ma Mr)).here S ⟨fun ρ1 M1 σ1 F1 H1 q W1 s1 S1 => s.nx ρ1 _ σ1 F1 H1 (h1 _ _ q) (W.frame W1) s1 S1, fun r M1 v F1 H1 q W1 s1 vv => s.rt r _ v F1 H1 (h2 _ _ q) (W.frame W1) s1 vv,
    fun ρ1 M1 σ1 F1 H1 q W1 s1 S1 => s.bk ρ1 _ σ1 F1 H1 (h3 _ _ q) (W.frame W1) s1 S1, fun ρ1 M1 σ1 F1 H1 q W1 s1 S1 => s.ct ρ1 _ σ1 F1 H1 (h4 _ _ q) (W.frame W1) s1 S1⟩

/-! ### the outer loop of a law: over its lists of draws -/
theorem sdraws (DrA : Nat → List SD → Prop) (i1 i3 : Nat) (c per : Nat) (R : List SD → Prop) {D : GD} {sts : List Stmt} {addr : Addr} {ns : List Int} {tn cn : Str} {elt : Expr} {scope : Scope} {ci : Int} {j1 j2 : Nat} {p0 p1 p2 p3 p4 p5 p6 p7 p8 p9 : Pos}
    (hc : X.calm = true) (hN : X.N.Nodup) (hp : PassesOwn (model X.prog X.w) X.A X.env X.xe) (dm : ∀ N N' xs, DrA N xs → N ≤ N' → DrA N' xs) (hci : ci = (c : Int)) (h8 : c ≤ 60)
    (hi1 : X.N[i1]? = some tn) (hl1 : Loc X.env.scope tn) (hf1 : X.fn tn = true ∨ X.env.scope.names.lookup tn = some .local)
    (h0 : ρ[0]? = some (.rf (.ref addr))) (hsc : Scr X.K M addr ns) (hN0 : X.N[0]? = some ("_law_script" : Str)) (hv0 : Vis X.env.scope ("_law_script" : Str))
    (ok : BlkOk X.N X.env.scope scope [(cn, i3)]) (ht : TgOk X scope (.Name cn p1) (.name i3)) (hw : i3 < ρ.length)
    (hcall : ∀ (z : Int) (ρ2 : List SD), ρ2[i3]? = some (.pu (.int z)) → ∀ Y, Blk X scope Y → ∀ (M1 : Mem) (Q1 : Kn), (∀ l xs, DrA 0 xs → Q1 (.rf (.ref l)) ((l, .lst xs) :: M1)) → GE Y ρ2 M1 elt Q1)
    (hR : R ρ)
    (body : ∀ (D' : Addr) (ys : List SD) (N : Nat) (ρ' : List SD), R ρ' → N + per ≤ (c + 1) * per → DrA N ys → GB X (ρ'.set i1 (.rf (.ref D'))) [(D', .lst ys)] sts ⟨fun ρ3 M3 => R ρ3 ∧ ∃ zs, DrA (N + per) zs ∧ Hld [(D', .lst zs)] M3, fun _ _ => False, fun _ _ => False, fun ρ3 M3 => R ρ3 ∧ ∃ zs, DrA (N + per) zs ∧ Hld [(D', .lst zs)] M3⟩)
    (fin : ∀ ρ' M', R ρ' → D.nx ρ' M')
    (hfs : ∀ x, foldedSetIterable (.ListComp elt [⟨.Name cn p1, .BinOp (.Subscript (.Name ("_law_script" : Str) p2) (.Slice none (some (.Constant (.int ci) j1 p3)) none p4) p5) .Add (.List [.Constant (.int 0) j2 p6] p7) p8, [], 0⟩] scope p9) X.env x = pure x := by intro _; rfl)
    (hfs2 : ∀ x, foldedSetIterable (.BinOp (.Subscript (.Name ("_law_script" : Str) p2) (.Slice none (some (.Constant (.int ci) j1 p3)) none p4) p5) .Add (.List [.Constant (.int 0) j2 p6] p7) p8) X.env x = pure x := by intro _; rfl)
    (hse : starEach [.Constant (.int 0) j2 p6] X.env = (false, eval (.Constant (.int 0) j2 p6) X.env) :: starEach [] X.env := by rfl) :
    GS X ρ M (.For (.Name tn p0) (.ListComp elt [⟨.Name cn p1, .BinOp (.Subscript (.Name ("_law_script" : Str) p2) (.Slice none (some (.Constant (.int ci) j1 p3)) none p4) p5) .Add (.List [.Constant (.int 0) j2 p6] p7) p8, [], 0⟩] scope p9) sts [] pos) D := by
  subst hci
  refine sfor hp hc (igmem ?_) hfs
  refine glc (.name i3) (own := [(cn, i3)]) hc hN ok ht (by intro j hj; simpa [Tg.ix] using hj) (iglist (gz (gcat ?_))) hfs2
  refine gslS (gv 0 h0 ?_ (hN := hN0) (hvis := hv0))
  change GE _ _ _ _ _
  refine gi ⟨(c : Int), rfl, addr, ns, rfl, hsc, fun l1 => ?_⟩
  have ecut : cutL (pints ns) none (some (c : Int)) = pints (cutL ns none (some (c : Int))) := by
    unfold cutL
    rw [pints_cut', pints_len']
  rw [ecut]
  generalize hcs : cutL ns none (some (c : Int)) = cs
  have lcs : cs.length ≤ c := by
    rw [← hcs]
    unfold cutL
    rw [List.length_take, HT.sIx_nat, HT.sIx_none]
    omega
  refine glst (acons (gi (anil ⟨le1, fun l2 => ⟨pints cs, pints [0], .mem (List.mem_cons_of_mem _ List.mem_cons_self), .mem List.mem_cons_self, ?_, fun l3 => ⟨l3, (cs ++ [0]).map .int, (l2, MO.lst [.pu (.int 0)]) :: (l1, MO.lst (pints cs)) :: M, rfl, ?_, _, rfl, ?_⟩⟩⟩)) hse)
  · rw [pints_len', pints_len']
    show cs.length + 1 ≤ 100000
    omega
  · rw [← pints_app', pints_pu']
  rw [List.length_map]
  have lcs1 : (cs ++ [0]).length ≤ c + 1 := by
    rw [List.length_append]
    show cs.length + 1 ≤ c + 1
    omega
  generalize (cs ++ [0]) = cz at lcs1
  let mk : Addr × List SD → Addr × MO := fun d => (d.1, .lst d.2)
  refine ⟨by omega, fun i acc M' => ∃ Ds : List (Addr × List SD), acc = Ds.reverse.map (fun d => SD.rf (.ref d.1)) ∧ Ds.length = i ∧ (∀ d ∈ Ds, DrA 0 d.2) ∧ ∃ Mz, M' = Ds.map mk ++ Mz, ⟨[], rfl, rfl, fun d hd => absurd hd List.not_mem_nil, _, rfl⟩, fun i acc M' hi _ h => ?_, fun acc M' hal h l => ?_⟩
  · obtain ⟨Ds, rfl, hD, hd, Mz, rfl⟩ := h
    rw [nth_map PyData.int 0 hi]
    refine ⟨_, rfl, fun Y hY => gts_nil (iteT fun Y2 hY2 => ?_)⟩
    refine hcall (cz.getD i 0) _ ?_ Y2 hY2 _ _ fun l xs hx => ⟨(l, xs) :: Ds, ?_, ?_, ?_, Mz, rfl⟩
    · have hwl : i3 < (wipeR ρ [i3]).length := by
        show i3 < (List.set ρ i3 SD.un).length
        rw [List.length_set]
        exact hw
      exact List.getElem?_set_self hwl
    · rw [List.reverse_cons, List.map_append]
      rfl
    · rw [List.length_cons, hD]
    · intro d hm
      rcases List.mem_cons.mp hm with e | hm
      · rw [e]
        exact hx
      · exact hd d hm
  obtain ⟨Ds, rfl, hD, hd, Mz, rfl⟩ := h
  refine ⟨l, _, _, rfl, rfl, ?_⟩
  have lenD : (Ds.reverse.map (fun d => SD.rf (.ref d.1))).length = cz.length := by rw [List.length_map, List.length_reverse, hD]
  rw [lenD]
  refine ⟨fun i ρ' M' => R ρ' ∧ ∃ Es : List (Addr × List SD), Es.map (·.1) = Ds.map (·.1) ∧ (∀ d ∈ Es, DrA (per * i) d.2) ∧ Hld (Es.map mk) M', ⟨hR, Ds, rfl, hd, Mz, .refl _⟩, fun i ρ' M' hi h => ?_, fun ρ' M' h => fin _ _ h.1⟩
  obtain ⟨hRi, Es, hE, hd', sub⟩ := h
  have hi2 : i < Ds.reverse.length := by rw [List.length_reverse, hD]; exact hi
  have item : (Ds.reverse.map (fun d => SD.rf (.ref d.1))).getD i .un = .rf (.ref (Ds.reverse[i]).1) := by
    rw [G.getD_at (by rw [List.length_map]; exact hi2), List.getElem_map]
  dsimp only
  rw [item]
  have inE : (Ds.reverse[i]).1 ∈ Es.map (·.1) := by
    rw [hE]
    exact List.mem_map_of_mem (List.mem_reverse.mp (List.getElem_mem hi2))
  generalize (Ds.reverse[i]).1 = D1 at inE
  obtain ⟨e, he, heD⟩ := List.mem_map.mp inE
  obtain ⟨E1, E2, hsplit⟩ := List.append_of_mem he
  obtain ⟨D', xs⟩ := e
  have heD : D' = D1 := heD
  subst heD
  subst hsplit
  refine tgname i1 (gbhld sub ?_) hN (hi := hi1) (hx := hl1) (hf := hf1)
  refine gbperm (M2 := [(D', .lst xs)] ++ (E1.map mk ++ E2.map mk)) ?_ ?_
  · rw [List.map_append]
    exact List.perm_middle
  have hx0 := hd' _ he
  have hlt : i + 1 ≤ c + 1 := by omega
  have hper : per * i + per ≤ (c + 1) * per := by
    have := Nat.mul_le_mul_right per hlt
    rw [Nat.succ_mul, Nat.mul_comm i per] at this
    exact this
  have next : ∀ (ρ3 : List SD) (M3 : Mem), (R ρ3 ∧ ∃ zs, DrA (per * i + per) zs ∧ Hld [(D', .lst zs)] M3) → R ρ3 ∧ ∃ Es' : List (Addr × List SD), Es'.map (·.1) = Ds.map (·.1) ∧ (∀ d ∈ Es', DrA (per * (i + 1)) d.2) ∧ Hld (Es'.map mk) (M3 ++ (E1.map mk ++ E2.map mk)) := by
    rintro ρ3 M3 ⟨r3, zs, hz, Mw, hold⟩
    refine ⟨r3, E1 ++ (D', zs) :: E2, ?_, ?_, Mw, ?_⟩
    · rw [← hE]
      simp
    · have ep : per * (i + 1) = per * i + per := Nat.mul_succ _ _
      intro d hm
      rcases List.mem_append.mp hm with h | h
      · exact dm _ _ _ (hd' d (List.mem_append_left _ h)) (by omega)
      · rcases List.mem_cons.mp h with e | h
        · rw [e, ep]
          exact hz
        · exact dm _ _ _ (hd' d (List.mem_append_right _ (List.mem_cons_of_mem _ h))) (by omega)
    · refine (List.Perm.append_right _ hold).trans ?_
      rw [List.map_append, List.append_assoc]
      have h1 : ((D', MO.lst zs) :: (Mw ++ (E1.map mk ++ E2.map mk))).Perm ((D', MO.lst zs) :: ((E1.map mk ++ E2.map mk) ++ Mw)) := List.Perm.cons _ List.perm_append_comm
      refine h1.trans ?_
      show ((D', MO.lst zs) :: ((E1.map mk ++ E2.map mk) ++ Mw)).Perm ((E1.map mk ++ ((D', MO.lst zs) :: E2.map mk)) ++ Mw)
      exact List.Perm.append_right Mw List.perm_middle.symm
  exact gbframe (body D' xs (per * i) ρ' hRi hper hx0) next (fun _ _ h => False.elim h) (fun _ _ h => False.elim h) next
end
end G

namespace G
/-! ### keys that part two tables -/
abbrev Alk (T : Tab) (n : Nat) (U : Tab) (m : Nat) (k : Int) : Prop := (run T n k).2 = (run U m k).2
def Part (T : Tab) (n : Nat) (U : Tab) (m : Nat) : Option Int → Prop
  | none => ∀ k, Alk T n U m k
  | some k => ¬ Alk T n U m k ∧ ∀ j, j < k → Alk T n U m j
abbrev InV (T U : Tab) (v : Int) : Prop := v ∈ T.flatten ∨ v ∈ U.flatten
theorem alk_prev {T U : Tab} {n m : Nat} {k : Int} (t : IsTab T n) (u : IsTab U m) (h1 : ¬ InV T U k) (h2 : ¬ InV T U (k - 1)) (h : ¬ Alk T n U m k) : ¬ Alk T n U m (k - 1) := by
  have e1 : run T n (k - 1) = run T n k := run_same t fun v hv => by
    have a : v ≠ k := fun e => h1 (.inl (e ▸ hv))
    have b : v ≠ k - 1 := fun e => h2 (.inl (e ▸ hv))
    exact ⟨by omega, b, a⟩
  have e2 : run U m (k - 1) = run U m k := run_same u fun v hv => by
    have a : v ≠ k := fun e => h1 (.inr (e ▸ hv))
    have b : v ≠ k - 1 := fun e => h2 (.inr (e ▸ hv))
    exact ⟨by omega, b, a⟩
  unfold Alk at *
  rw [e1, e2]
  exact h
theorem low_of : ∀ L : List Int, ∃ b, ∀ v ∈ L, b ≤ v
  | [] => ⟨0, fun v hv => absurd hv List.not_mem_nil⟩
  | x :: L => by
    obtain ⟨b, h⟩ := low_of L
    by_cases c : x ≤ b
    · exact ⟨x, fun v hv => by
        rcases List.mem_cons.mp hv with e | hv
        · omega
        · have := h v hv
          omega⟩
    · exact ⟨b, fun v hv => by
        rcases List.mem_cons.mp hv with e | hv
        · omega
        · exact h v hv⟩
theorem high_of : ∀ L : List Int, ∃ b, ∀ v ∈ L, v ≤ b
  | [] => ⟨0, fun v hv => absurd hv List.not_mem_nil⟩
  | x :: L => by
    obtain ⟨b, h⟩ := high_of L
    by_cases c : b ≤ x
    · exact ⟨x, fun v hv => by
        rcases List.mem_cons.mp hv with e | hv
        · omega
        · have := h v hv
          omega⟩
    · exact ⟨b, fun v hv => by
        rcases List.mem_cons.mp hv with e | hv
        · omega
        · exact h v hv⟩
theorem alk_in {T U : Tab} {n m : Nat} (t : IsTab T n) (u : IsTab U m) {k : Int} (h : ¬ Alk T n U m k) : ∃ j, j ≤ k ∧ ¬ Alk T n U m j ∧ (InV T U j ∨ InV T U (j - 1)) := by
  obtain ⟨b, hb⟩ := low_of (T.flatten ++ U.flatten)
  have key : ∀ (d : Nat) (k : Int), k - b ≤ d → ¬ Alk T n U m k → ∃ j, j ≤ k ∧ ¬ Alk T n U m j ∧ (InV T U j ∨ InV T U (j - 1)) := by
    intro d
    induction d with
    | zero =>
      intro k hk h
      by_cases h1 : InV T U k
      · exact ⟨k, Int.le_refl _, h, .inl h1⟩
      · refine absurd ?_ h
        have l1 : (run T n k).2 = ((0 : Int), (-1 : Int)) := run_low t fun v hv => by
          have := hb v (List.mem_append_left _ hv)
          have : v ≠ k := fun e => h1 (.inl (e ▸ hv))
          omega
        have l2 : (run U m k).2 = ((0 : Int), (-1 : Int)) := run_low u fun v hv => by
          have := hb v (List.mem_append_right _ hv)
          have : v ≠ k := fun e => h1 (.inr (e ▸ hv))
          omega
        exact l1.trans l2.symm
    | succ d ih =>
      intro k hk h
      by_cases h1 : InV T U k
      · exact ⟨k, Int.le_refl _, h, .inl h1⟩
      · by_cases h2 : InV T U (k - 1)
        · exact ⟨k, Int.le_refl _, h, .inr h2⟩
        · obtain ⟨j, j1, j2, j3⟩ := ih (k - 1) (by omega) (alk_prev t u h1 h2 h)
          exact ⟨j, by omega, j2, j3⟩
  exact key (k - b).toNat k (by omega) h
/-- a list of keys that holds all that could part -/
structure Cov (T U : Tab) (P : List Int) : Prop where
  up : P.Pairwise (· < ·)
  all : ∀ v, InV T U v → v ∈ P ∧ v + 1 ∈ P
theorem Cov.has {T U : Tab} {P : List Int} (c : Cov T U P) {j : Int} (h : InV T U j ∨ InV T U (j - 1)) : j ∈ P := by
  rcases h with h | h
  · exact (c.all j h).1
  · have := (c.all _ h).2
    rwa [show j - 1 + 1 = j by omega] at this
theorem part_none {T U : Tab} {n m : Nat} {P : List Int} (t : IsTab T n) (u : IsTab U m) (c : Cov T U P) (h : ∀ k ∈ P, Alk T n U m k) : Part T n U m none := fun k => Classical.byContradiction fun hk => by
  obtain ⟨j, _, h2, h3⟩ := alk_in t u hk
  exact h2 (h j (c.has h3))
theorem part_at {T U : Tab} {n m i : Nat} {P : List Int} (t : IsTab T n) (u : IsTab U m) (c : Cov T U P) (hi : i < P.length) (h : ∀ (i' : Nat) (h : i' < i), Alk T n U m (P[i']'(by omega))) (hk : ¬ Alk T n U m P[i]) : Part T n U m (some P[i]) := by
  refine ⟨hk, fun j hj => Classical.byContradiction fun hn => ?_⟩
  obtain ⟨x, x1, x2, x3⟩ := alk_in t u hn
  obtain ⟨y, hy, e⟩ := List.mem_iff_getElem.mp (c.has x3)
  have mono : ∀ {a b : Nat} (h : a < b) (hb : b < P.length), P[a]'(by omega) < P[b] := fun h hb => List.pairwise_iff_getElem.mp c.up _ _ _ _ h
  by_cases z : y < i
  · have := h y z
    rw [e] at this
    exact x2 this
  · by_cases z2 : y = i
    · subst z2
      omega
    · have := mono (a := i) (b := y) (by omega) hy
      omega
theorem part_uniq {T U : Tab} {n m : Nat} : ∀ {r r' : Option Int}, Part T n U m r → Part T n U m r' → r = r'
  | none, none, _, _ => rfl
  | none, some k, h, h' => absurd (h k) h'.1
  | some k, none, h, h' => absurd (h' k) h.1
  | some k, some k', h, h' => by
    rcases Int.lt_trichotomy k k' with c | c | c
    · exact absurd (h'.2 k c) h.1
    · rw [c]
    · exact absurd (h.2 k' c) h'.1
theorem part_symm {T U : Tab} {n m : Nat} : ∀ {r : Option Int}, Part T n U m r → Part U m T n r
  | none, h => fun k => (h k).symm
  | some k, h => ⟨fun e => h.1 e.symm, fun j hj => (h.2 j hj).symm⟩
theorem part_vals {T U : Tab} {n m : Nat} {k : Int} (t : IsTab T n) (u : IsTab U m) (h : Part T n U m (some k)) : InV T U k ∨ InV T U (k - 1) := by
  obtain ⟨j, h1, h2, h3⟩ := alk_in t u h.1
  by_cases e : j = k
  · rw [← e]
    exact h3
  · exact absurd (h.2 j (by omega)) h2
theorem part_size {T U : Tab} {n m : Nat} (t : IsTab T n) (u : IsTab U m) (h : Part T n U m none) : T.length = U.length ∧ n = m := by
  obtain ⟨b, hb⟩ := high_of (T.flatten ++ U.flatten)
  have l1 := run_high (k := b + 1) t fun v hv => by
    have := hb v (List.mem_append_left _ hv)
    omega
  have l2 := run_high (k := b + 1) u fun v hv => by
    have := hb v (List.mem_append_right _ hv)
    omega
  have e : (run T n (b + 1)).2 = (run U m (b + 1)).2 := h (b + 1)
  rw [l1, l2] at e
  have e1 := congrArg Prod.fst e
  have e2 := congrArg Prod.snd e
  dsimp only at e1 e2
  omega
theorem part_self (T : Tab) (n : Nat) : Part T n T n none := fun _ => rfl
theorem part_find {T U : Tab} {n m : Nat} {P : List Int} (t : IsTab T n) (u : IsTab U m) (c : Cov T U P) : Part T n U m (P.filter fun k => !decide (Alk T n U m k)).head? := by
  have key : ∀ (A B : List Int), P = A ++ B → (∀ k ∈ A, Alk T n U m k) → Part T n U m (B.filter fun k => !decide (Alk T n U m k)).head? := by
    intro A B
    induction B generalizing A with
    | nil =>
      intro e h
      rw [List.append_nil] at e
      subst e
      exact part_none t u c h
    | cons k B ih =>
      intro e h
      by_cases hk : Alk T n U m k
      · rw [List.filter_cons, if_neg (by rw [decide_eq_true hk]; decide)]
        exact ih (A ++ [k]) (by rw [e, List.append_assoc]; rfl) fun x hx => by
          rcases List.mem_append.mp hx with h2 | h2
          · exact h x h2
          · rw [List.mem_singleton.mp h2]
            exact hk
      · rw [List.filter_cons, if_pos (by rw [decide_eq_false hk]; rfl)]
        show Part T n U m (some k)
        subst e
        have hi : A.length < (A ++ k :: B).length := by simp
        have z := part_at (i := A.length) t u c hi (fun i' h2 => by
          rw [List.getElem_append_left h2]
          exact h _ (List.getElem_mem _)) (by simpa using hk)
        have e2 : (A ++ k :: B)[A.length] = k := by simp
        rwa [e2] at z
  exact key [] P rfl fun k hk => absurd hk List.not_mem_nil
theorem part_const {T U : Tab} {n m : Nat} {P : List Int} {r : Option Int} (t : IsTab T n) (u : IsTab U m) (h1 : P.Pairwise (· < ·)) (h2 : ∀ v ∈ T.flatten ++ U.flatten, v ∈ P ∧ v + 1 ∈ P) (h : Part T n U m r) : r = (P.filter fun k => !decide (Alk T n U m k)).head? :=
  part_uniq h (part_find t u ⟨h1, fun v hv => h2 v (List.mem_append.mpr hv)⟩)
end G

namespace G
open PySem PySem.Spec PyProof.Rows L2
/-- values of a drawn table -/
abbrev VS (B : Int) (ns : List Int) : Prop := ∀ v ∈ ns, -B ≤ v ∧ v ≤ B
theorem vs_row {B : Int} {T : Tab} (h : ∀ r ∈ T, ∀ v ∈ r, -B ≤ v ∧ v ≤ B) : VS B T.flatten := fun v hv => by
  obtain ⟨r, hr, hv⟩ := List.mem_flatten.mp hv
  exact h r hr v hv
theorem small_md' {n m : Nat} (h : 0 < m) : ∃ q : Nat, (1 : Int) + (n : Int) % (m : Int) = (q : Int) ∧ 0 < q ∧ q ≤ m := ⟨1 + n % m, by rw [Int.natCast_add, Int.natCast_emod]; rfl, by omega, by have := Nat.mod_lt n h; omega⟩
def oD : Option Int → PyData
  | none => .none
  | some v => .int v
def levT (T : Tab) (n : Nat) : Tab := (List.range T.length).map fun i => (List.range n).map (lev T n i)
theorem levT_is {T : Tab} {n : Nat} (t : IsTab T n) : IsTab (levT T n) n := ⟨by simp [levT, t.pos], by simp [levT, t.le], t.npos, t.nle, fun r hr => by
  obtain ⟨i, _, e⟩ := List.mem_map.mp hr
  rw [← e, List.length_map, List.length_range]⟩
theorem levT_len (T : Tab) (n : Nat) : (levT T n).length = T.length := by simp [levT]
theorem val_levT {T : Tab} {n i j : Nat} (hi : i < T.length) (hj : j < n) : val (levT T n) i j = lev T n i j := by
  unfold val levT
  simp [List.getD_eq_getElem?_getD, hi, hj]
theorem tab_ext {A B : Tab} {n : Nat} (a : ∀ r ∈ A, r.length = n) (b : ∀ r ∈ B, r.length = n) (h : A.length = B.length) (hv : ∀ i j, i < A.length → j < n → val A i j = val B i j) : A = B := by
  refine List.ext_getElem h fun i h1 h2 => ?_
  have l1 := a _ (List.getElem_mem h1)
  have l2 := b _ (List.getElem_mem h2)
  refine List.ext_getElem (by rw [l1, l2]) fun j g1 g2 => ?_
  have := hv i j h1 (by omega)
  unfold val at this
  simpa [List.getD_eq_getElem?_getD, h1, h2, g1, g2] using this
theorem val_put {A B : Tab} {r : List Int} {j : Nat} (v : Int) (hj : j < r.length) (i' j' : Nat) : val (A ++ r.set j v :: B) i' j' = if i' = A.length ∧ j' = j then v else val (A ++ r :: B) i' j' := by
  unfold val
  simp only [List.getD_eq_getElem?_getD]
  rcases Nat.lt_trichotomy i' A.length with h | h | h
  · rw [List.getElem?_append_left h, List.getElem?_append_left h, if_neg (by omega)]
  · subst h
    rw [List.getElem?_append_right (Nat.le_refl _), List.getElem?_append_right (Nat.le_refl _), Nat.sub_self]
    simp only [List.getElem?_cons_zero, Option.getD_some, List.getElem?_set]
    by_cases e : j' = j
    · subst e
      simp [hj]
    · rw [if_neg (fun z => e z.symm), if_neg (fun z => e z.2)]
  · rw [List.getElem?_append_right (by omega), List.getElem?_append_right (by omega), if_neg (by omega)]
    obtain ⟨d, e⟩ : ∃ d, i' - A.length = d + 1 := ⟨i' - A.length - 1, by omega⟩
    rw [e]
    rfl
/-- the bounds of a place as the program gives them -/
def bOf (lo hi : Option Int) : PyData := if lo.isSome = true ∧ lo = hi then .none else .tuple [oD lo, oD hi]
abbrev bAt (T : Tab) (n i j : Nat) : PyData := bOf (loB T n i j) (hiB T n i j)
theorem fm2_flat (R : Tab) : fm2 R.length (fun i => (R.getD i []).length) (fun _ _ => true) (fun i j => SD.pu (.int ((R.getD i []).getD j 0))) = (R.flatten.map PyData.int).map SD.pu := by
  unfold fm2
  have h : ∀ m, m ≤ R.length → ((List.range m).flatMap fun i => fm (R.getD i []).length (fun _ => true) (fun j => SD.pu (.int ((R.getD i []).getD j 0)))) = ((R.take m).flatten.map PyData.int).map SD.pu := by
    intro m
    induction m with
    | zero => intro _; rfl
    | succ m ih =>
      intro hm
      have e : R.take (m + 1) = R.take m ++ [R[m]] := by rw [List.take_add_one, List.getElem?_eq_getElem hm]; rfl
      rw [List.range_succ, List.flatMap_append, ih (by omega), e, List.flatten_append, List.map_append, List.map_append]
      congr 1
      show (fm _ _ _ ++ []) = _
      rw [List.append_nil, fm_all, range_map (R.getD m []) 0 (fun v => SD.pu (.int v)), G.getD_at hm, List.flatten_singleton, List.map_map]
      rfl
  have z := h R.length (Nat.le_refl _)
  rwa [List.take_length] at z
theorem mem2_two (V : List Int) (k : Int) : k ∈ mem2 V.length (fun _ => 2) (fun _ _ => true) (fun i j => V.getD i 0 + (j : Int)) ↔ k ∈ V ∨ k - 1 ∈ V := by
  unfold mem2
  constructor
  · intro h
    obtain ⟨i, hi, h⟩ := List.mem_flatMap.mp h
    obtain ⟨j, hj, e⟩ := List.mem_map.mp h
    have hi := List.mem_range.mp hi
    have hj := List.mem_range.mp (List.mem_filter.mp hj).1
    have hj : j < 2 := hj
    have e : V.getD i 0 + (j : Int) = k := e
    rw [G.getD_at hi] at e
    obtain rfl | rfl : j = 0 ∨ j = 1 := by omega
    · exact .inl (by rw [← e]; simpa using List.getElem_mem hi)
    · exact .inr (by rw [← e]; simpa using List.getElem_mem hi)
  · rintro (h | h)
    · obtain ⟨i, hi, e⟩ := List.mem_iff_getElem.mp h
      refine List.mem_flatMap.mpr ⟨i, List.mem_range.mpr hi, List.mem_map.mpr ⟨0, List.mem_filter.mpr ⟨List.mem_range.mpr (show 0 < 2 by decide), rfl⟩, ?_⟩⟩
      show V.getD i 0 + ((0 : Nat) : Int) = k
      rw [G.getD_at hi, e]
      simp
    · obtain ⟨i, hi, e⟩ := List.mem_iff_getElem.mp h
      refine List.mem_flatMap.mpr ⟨i, List.mem_range.mpr hi, List.mem_map.mpr ⟨1, List.mem_filter.mpr ⟨List.mem_range.mpr (show 1 < 2 by decide), rfl⟩, ?_⟩⟩
      show V.getD i 0 + ((1 : Nat) : Int) = k
      rw [G.getD_at hi, e]
      show k - 1 + ((1 : Nat) : Int) = k
      omega
section
variable {X : Cx} {ρ : List SD} {M : Mem} {Q : Kn} {e : Expr}
/-- a new list is frozen, some of the others stay -/
theorem gzs (h : GE X ρ M e fun r M' => ∃ l xs ds M2 M3, r = .rf (.ref l) ∧ M' = (l, .lst xs) :: M2 ∧ xs = ds.map .pu ∧ List.Sublist M3 M2 ∧ Q (.pu (.list ds)) M3) : GE X ρ M e Q :=
  gf (gz (h.mono fun r M' ⟨l, xs, ds, M2, M3, e1, e2, e3, e4, q⟩ => ⟨l, ds, M2, e1, by rw [e2, e3], M3, e4, q⟩))
end
theorem three_flat : ∀ L : List Int, ∃ S : List Int, (L.map (fun v => pints [v - 1, v, v + 1])).flatten = pints S ∧ S.length = 3 * L.length ∧ ∀ v ∈ L, v ∈ S ∧ v + 1 ∈ S
  | [] => ⟨[], rfl, rfl, fun v hv => absurd hv List.not_mem_nil⟩
  | v :: L => by
    obtain ⟨S, e, l, h⟩ := three_flat L
    refine ⟨[v - 1, v, v + 1] ++ S, ?_, ?_, fun u hu => ?_⟩
    · rw [List.map_cons, List.flatten_cons, e]
      show _ = List.map _ (_ ++ _)
      rw [List.map_append]
    · rw [List.length_append, l]
      show 3 + 3 * L.length = 3 * (L.length + 1)
      omega
    · rcases List.mem_cons.mp hu with z | z
      · rw [z]
        exact ⟨by simp, by simp⟩
      · exact ⟨List.mem_append_right _ (h u z).1, List.mem_append_right _ (h u z).2⟩
theorem lv_three : ∀ (L : List Int) (M : Mem), Paired (LV M) (L.map (fun v => SD.pu (.list ([v - 1, v, v + 1].map .int)))) (L.map (fun v => pints [v - 1, v, v + 1]))
  | [], M => .nil
  | v :: L, M => .cons (show LV M (.pu (.list ([v - 1, v, v + 1].map .int))) (pints [v - 1, v, v + 1]) from lv_ints _) (lv_three L M)
theorem any_pl (L : List (Nat × Nat)) (p : Nat × Nat) : ((L.map plD).any fun z => PyData.eqv z (plD p)) = decide (p ∈ L) := by
  induction L with
  | nil => rfl
  | cons q L ih =>
    rw [List.map_cons, List.any_cons, ih, eqv_pl]
    have e : (((q.1 : Int), (q.2 : Int)) = ((p.1 : Int), (p.2 : Int))) ↔ p = q := by
      constructor
      · intro h
        injection h with h1 h2
        exact Prod.ext (by omega) (by omega)
      · intro h
        rw [h]
    by_cases h : p = q
    · simp [h]
    · have : ¬ (((q.1 : Int), (q.2 : Int)) = ((p.1 : Int), (p.2 : Int))) := fun z => h (e.mp z)
      simp [h, this]
theorem any_true (L : List Bool) : ((L.map PyData.bool).any fun z => PyData.eqv z (.bool true)) = L.any id := by
  induction L with
  | nil => rfl
  | cons b L ih =>
    rw [List.map_cons, List.any_cons, List.any_cons, ih]
    cases b <;> rfl
theorem shaped_bools (L : List Bool) : SeqAt.shaped (.list (L.map .bool)) = true := by
  have h : PyData.canLayAll0 (L.map .bool) = true ∧ PyData.depthAll (L.map .bool) ≤ 1 := by
    induction L with
    | nil => exact ⟨rfl, Nat.zero_le _⟩
    | cons p L ih => exact ⟨by simp [PyData.canLayAll0, PyData.canLay0, ih.1], by simp only [List.map_cons, PyData.depthAll, PyData.depth]; have := ih.2; omega⟩
  exact shaped_of 1 (by decide) h.1 h.2
theorem shaped_bOf (lo hi : Option Int) : SeqAt.shaped (bOf lo hi) = true := by
  unfold bOf
  split
  · rfl
  · cases lo <;> cases hi <;> rfl
theorem bOf_apart (lo hi : Option Int) (x : Str) : PyData.eqv (bOf lo hi) (.str x) = false := by
  unfold bOf
  split
  · rfl
  · rfl
theorem gd_bOf {lo hi : Option Int} (h1 : ∀ a, lo = some a → IB a) (h2 : ∀ a, hi = some a → IB a) : Gd 1 402 (bOf lo hi) := by
  have o : ∀ {x : Option Int}, (∀ a, x = some a → IB a) → Gd 0 200 (oD x) := fun {x} h => by
    cases x with
    | none => exact gd_none
    | some a => exact gd_int (h a rfl)
  unfold bOf
  split
  · exact gd_none.up (by decide) (by decide)
  · exact gd_tuple (k := 0) (w := 200) (n := 2) (fun d hd => by
      rcases List.mem_cons.mp hd with e | hd
      · rw [e]; exact o h1
      · rw [List.mem_singleton.mp hd]; exact o h2) (Nat.le_refl 2)
theorem bOf_non {lo hi : Option Int} : dNon (bOf lo hi) = decide (lo.isSome = true ∧ lo = hi) := by
  unfold bOf
  split
  · next h => exact (decide_eq_true h).symm
  · next h => exact (decide_eq_false h).symm
/-- the told numbers of a gap and the bounds -/
theorem due_bounds {T : Tab} {n i j p q : Nat} {V : List Int} (up : V.Pairwise (· < ·)) (hj : j < n) (hp : p ≤ V.length) (hq : q ≤ V.length) (h1 : loB T n i j = (if 0 < p then some (V.getD (p - 1) 0) else none)) (h2 : hiB T n i j = (if q < V.length then some (V.getD q 0) else none)) :
    (p ≤ q ↔ ¬ ((loB T n i j).isSome = true ∧ loB T n i j = hiB T n i j)) := by
  have mono : ∀ {a c : Nat} (h : a < c) (hc : c < V.length), V.getD a 0 < V.getD c 0 := fun {a c} h hc => by
    rw [G.getD_at (show a < V.length by omega), G.getD_at hc]
    exact List.pairwise_iff_getElem.mp up _ _ _ _ h
  constructor
  · rintro hpq ⟨a, b⟩
    rw [h1] at a b
    rw [h2] at b
    by_cases hp0 : 0 < p
    · rw [if_pos hp0] at b
      by_cases hq0 : q < V.length
      · rw [if_pos hq0] at b
        have := mono (a := p - 1) (c := q) (by omega) hq0
        injection b with b
        omega
      · rw [if_neg hq0] at b
        cases b
    · rw [if_neg hp0] at a
      cases a
  · intro hn
    refine Classical.byContradiction fun hpq => hn ?_
    have hp0 : 0 < p := by omega
    have hq0 : q < V.length := by omega
    rw [if_pos hp0] at h1
    rw [if_pos hq0] at h2
    refine ⟨by rw [h1]; rfl, ?_⟩
    rw [h1, h2]
    congr 1
    have l0 : 0 < i := by
      refine Classical.byContradiction fun z => ?_
      have : i = 0 := by omega
      subst this
      rw [lo_zero] at h1
      cases h1
    have l1 : j + 1 < n := by
      refine Classical.byContradiction fun z => ?_
      unfold hiB at h2
      rw [if_neg z] at h2
      cases h2
    have e1 : loB T n i j = some (lev T n (i - 1) j) := by unfold loB; rw [if_pos l0]
    have e2 := hi_some T (i := i) l1
    rw [e1] at h1
    rw [e2] at h2
    injection h1 with h1
    injection h2 with h2
    have g1 := lev_right T l1 (i - 1)
    have g2 := lev_down T (i := i - 1) l1
    rw [show i - 1 + 1 = i by omega] at g2
    by_cases e : p - 1 = q
    · rw [e]
    · have := mono (a := q) (c := p - 1) (by omega) (by omega)
      omega
end G

namespace K01
open PySem PySem.Spec PyProof.Rows L2 G
def topS (i : Nat) : Stmt := PySem.Challenge.pw_halftables_k01_paths_and_ends.main.body.getD i (.Pass ⟨0, 0, 0, 0⟩)
abbrev sWhole : Stmt := topS 5
abbrev sCkTab : Stmt := topS 6
abbrev sLoL : Stmt := topS 8
abbrev sRow : Stmt := topS 9
/-- the built-in names that the module leaves alone -/
structure Bl (mg : Str → Option Value) : Prop where
  isi : mg "isinstance" = none
  int : mg "int" = none
  bool : mg "bool" = none
  list : mg "list" = none
  len : mg "len" = none
  all : mg "all" = none
  enum : mg "enumerate" = none
  zip : mg "zip" = none
  sorted : mg "sorted" = none
  set : mg "set" = none
  sum : mg "sum" = none
  min : mg "min" = none
  range : mg "range" = none
  repr : mg "repr" = none
theorem sc {N ps : List Str} {st : Stmt} (h1 : (defScope st).isGenerator = false) (h2 : (defScope st).isCoroutine = false) : True := trivial
section
variable {P : Program} {w : World} {K : PySem.W.Frag} {mg : Str → Option Value} {base : Heap} {f : Addr} {fd : FuncData} {k : Nat}
/-! ### is_whole -/
theorem scWhole : FnScope ["thing"] ["thing"] (defScope sWhole) := ⟨rfl, rfl, rfl, by decide +kernel, rfl, by decide +kernel, by decide +kernel⟩
def SWhole : GSpec := fun rs M Kk => ∃ i, rs = [.pu (.int i)] ∧ M = [] ∧ Kk (.pu (.bool true)) []
theorem fWhole (F : Fun K "is_whole" "is_whole" sWhole f fd) (b : Bl mg) : FnG P w K mg base (k + 1) f fd ["thing"] SWhole := by
  refine fnG F scWhole (fun rs M Kk ⟨i, e, _⟩ => by rw [e]; rfl) fun cdv A outer s H hgd hr rs M Kk hS => ?_
  obtain ⟨i, rfl, rfl, q⟩ := hS
  refine bone (sret (gand (gisi b.isi (gv 0 rfl (gty b.int boot_int ⟨"int", "int", true, .int i, rfl, rfl, true, rfl, iteT ?_⟩)))))
  exact gnot (gisi b.isi (gv 0 rfl (gty b.bool boot_bool ⟨"int", "bool", false, .int i, rfl, rfl, false, rfl, q⟩)))
theorem scLoL : FnScope ["thing", "row"] ["thing"] (defScope sLoL) := ⟨rfl, rfl, rfl, by decide +kernel, rfl, by decide +kernel, by decide +kernel⟩
def SLoL : GSpec := fun rs M Kk => ∃ T n, IsTab T n ∧ rs = [.pu (tab T)] ∧ M = [] ∧ ∀ M', Kk (.pu (.bool true)) M'
theorem map_nth (ds : List PyData) : (List.range ds.length).map (nth ds) = ds.map .pu := by
  apply List.ext_getElem
  · simp
  · intro i h1 h2
    rw [List.getElem_map, List.getElem_range, List.getElem_map]
    exact item_at (by simpa using h1)
theorem fLoL (F : Fun K "_is_list_of_lists" "_is_list_of_lists" sLoL f fd) (b : Bl mg) (lg : ∃ t, mg "LONGEST" = some (.int 8 t)) : FnG P w K mg base (k + 1) f fd ["thing"] SLoL := by
  obtain ⟨tk, lg⟩ := lg
  refine fnG F scLoL (fun rs M Kk ⟨T, n, t, e, _⟩ => by rw [e]; rfl) fun cdv A outer s H hgd hr rs M Kk hS => ?_
  obtain ⟨T, n, t, rfl, rfl, q⟩ := hS
  have h1 := t.pos
  have h2 := t.le
  have hl : Len [] (.pu (tab T)) T.length := by
    have z := Len.lst (M := []) (LV.pu (ds := T.map rowD))
    rw [List.length_map, List.length_map] at z
    exact z
  refine bcons (sif (tor (tnot (tval (gisi b.isi (gv 0 rfl (gty b.list boot_list ⟨"list", "list", true, .lst .pu, rfl, rfl, true, rfl, iteF ?_⟩)))))))
  refine tnot (tlele (gi ⟨1, rfl, glen b.len (gv 0 rfl ⟨T.length, hl, _, rfl, ?_⟩)⟩))
  refine iteY (decide_eq_true (by omega)) (gglob lg ⟨8, rfl, ?_⟩)
  refine iteN (by simp; omega) (bnil (bone (sret (gall rfl b.all ?_))))
  refine glc (.name 1) (own := [("row", 1)]) rfl scLoL.nd (blkOk_by (N := ["thing", "row"]) (sc := defScope sLoL) (by decide +kernel)) (fun _ _ _ _ _ => pg_name (i := 1) scLoL.nd rfl (Or.inl rfl)) (by decide) (iglist (gv 0 rfl ⟨T.map rowD, rfl, ?_⟩))
  have hT : ∀ i, i < (T.map rowD).length → ∃ r, nth (T.map rowD) i = .pu (rowD r) := fun i hi => ⟨T[i]'(by simpa using hi), by rw [item_at hi, List.getElem_map]⟩
  refine lc_map (fun _ => .pu (.bool true)) (by rw [List.length_map]; omega) (fun i hi => ?_) fun l => ?_
  · obtain ⟨r, e⟩ := hT i hi
    rw [e]
    refine ⟨_, rfl, ?_⟩
    rintro Y ⟨s', H', C, cl, fp, rfl⟩
    exact gisi b.isi (gv 1 rfl (gty b.list boot_list ⟨"list", "list", true, .lst .pu, rfl, rfl, rfl, rfl⟩))
  · refine ⟨List.replicate T.length true, .mem ?_, ?_⟩
    · rw [List.length_map]
      simp [pbools, List.map_const']
    · rw [show (List.replicate T.length true).all id = true by simp]
      exact q _
theorem scRow : FnScope ["row", "value"] ["row"] (defScope sRow) := ⟨rfl, rfl, rfl, by decide +kernel, rfl, by decide +kernel, by decide +kernel⟩
def SRow : GSpec := fun rs M Kk => ∃ r : List Int, rs = [.pu (rowD r)] ∧ 0 < r.length ∧ r.length ≤ 8 ∧ M = [] ∧ ∀ M', Kk (.pu (.bool true)) M'
theorem fRow (F : Fun K "_is_row" "_is_row" sRow f fd) (b : Bl mg) (lg : ∃ t, mg "LONGEST" = some (.int 8 t)) (CW : Cal P w K mg base k "is_whole" sWhole ["thing"] SWhole) : FnG P w K mg base (k + 1) f fd ["row"] SRow := by
  obtain ⟨tk, lg⟩ := lg
  refine fnG F scRow (fun rs M Kk ⟨r, e, _⟩ => by rw [e]; rfl) fun cdv A outer s H hgd hr rs M Kk hS => ?_
  obtain ⟨r, rfl, h1, h2, rfl, q⟩ := hS
  refine bone (sret (gand (glele (gi ⟨1, rfl, glen b.len (gv 0 rfl ⟨r.length, row_len, _, rfl, ?_⟩)⟩))))
  refine iteY (decide_eq_true (by omega)) (gglob lg ⟨8, rfl, ?_⟩)
  refine ⟨_, rfl, iteY (decide_eq_true (by omega)) (gall rfl b.all ?_)⟩
  refine glc (.name 1) (own := [("value", 1)]) rfl scRow.nd (blkOk_by (N := ["row", "value"]) (sc := defScope sRow) (by decide +kernel)) (fun _ _ _ _ _ => pg_name (i := 1) scRow.nd rfl (Or.inl rfl)) (by decide) (iglist (gv 0 rfl ⟨r.map .int, rfl, ?_⟩))
  refine lc_map (fun _ => .pu (.bool true)) (by rw [List.length_map]; omega) (fun i hi => ?_) fun l => ?_
  · rw [item_at hi, List.getElem_map]
    refine ⟨_, rfl, ?_⟩
    rintro Y ⟨s', H', C, cl, fp, rfl⟩
    exact gcalP CW hgd hr (acons (gv 1 rfl (anil ⟨_, rfl, rfl, rfl, rfl⟩)))
  · refine ⟨List.replicate r.length true, .mem ?_, ?_⟩
    · rw [List.length_map]
      simp [pbools, List.map_const']
    · rw [show (List.replicate r.length true).all id = true by simp]
      exact q _
theorem scCkTab : FnScope ["table", "number", "row"] ["table"] (defScope sCkTab) := ⟨rfl, rfl, rfl, by decide +kernel, rfl, by decide +kernel, by decide +kernel⟩
def SCkTab : GSpec := fun rs M Kk => ∃ T n, IsTab T n ∧ rs = [.pu (tab T)] ∧ M = [] ∧ ∀ M', Kk (.pu .none) M'
theorem fCkTab (F : Fun K "check_table" "check_table" sCkTab f fd) (b : Bl mg) (CL : Cal P w K mg base k "_is_list_of_lists" sLoL ["thing"] SLoL) (CR : Cal P w K mg base k "_is_row" sRow ["row"] SRow) : FnG P w K mg base (k + 1) f fd ["table"] SCkTab := by
  refine fnG F scCkTab (fun rs M Kk ⟨T, n, t, e, _⟩ => by rw [e]; rfl) fun cdv A outer s H hgd hr rs M Kk hS => ?_
  obtain ⟨T, n, t, rfl, rfl, q⟩ := hS
  refine bcons (sif (tnot (tval (gcalP CL hgd hr (acons (gv 0 rfl (anil ⟨T, n, t, rfl, rfl, fun M' => ⟨true, rfl, iteF (bnil (gbforget (List.nil_sublist _) (bone ?_)))⟩⟩)))))))
  refine sfor PassesOwn.never rfl (igenum b.enum (gv 0 rfl ⟨T.map rowD, rfl, fun i ρ' M' => ∃ a b, ρ' = [.pu (tab T), a, b], ⟨_, _, rfl⟩, fun i ρ' M' hi hp => ?_, fun ρ' M' _ => q _⟩))
  obtain ⟨a, b', rfl⟩ := hp
  have hi' : i < T.length := by simpa using hi
  have hT : T[i] ∈ T := List.getElem_mem hi'
  have h0 : T[0]'t.pos ∈ T := List.getElem_mem t.pos
  rw [enu_at hi]
  refine tgtup rfl rfl (tgscons (tgname 1 (tgscons (tgname 2 (tgsnil ?_) scCkTab.nd)) scCkTab.nd))
  rw [List.getElem_map]
  refine bone (sif (tor (tneI (glen b.len (gv 2 rfl ⟨_, row_len, _, rfl, glen b.len (gix (gv 0 rfl (gi ⟨0, .pu (rowD (T[0]'t.pos)), rfl, ?_, _, row_len, _, rfl, iteN ?_ ?_⟩)))⟩)))))
  · exact .lst (atI_nat (j := 0) (by rw [List.getElem?_map, List.getElem?_eq_getElem t.pos]; rfl))
  · simp [t.rows _ hT, t.rows _ h0]
  · refine tnot (tval (gcalP CR hgd hr (acons (gv 2 rfl (anil ⟨_, rfl, ?_, ?_, rfl, fun M' => ⟨true, rfl, iteN rfl (bnil ⟨_, _, rfl⟩)⟩⟩)))))
    · rw [t.rows _ hT]; exact t.npos
    · rw [t.rows _ hT]; exact t.nle
end
end K01

namespace K01
open PySem PySem.Spec PyProof.Rows L2 G
abbrev sWalk : Stmt := topS 15
abbrev sTurned : Stmt := topS 16
section
variable {P : Program} {w : World} {K : PySem.W.Frag} {mg : Str → Option Value} {base : Heap} {f : Addr} {fd : FuncData} {k : Nat}
/-! ### walk -/
abbrev NWalk : List Str := ["table", "key", "looked", "row", "column", "value"]
theorem scWalk : FnScope NWalk ["table", "key"] (defScope sWalk) := ⟨rfl, rfl, rfl, by decide +kernel, rfl, by decide +kernel, by decide +kernel⟩
abbrev runD (R : List (Nat × Nat) × (Int × Int)) : PyData := .tuple [.list (R.1.map plD), enD R.2]
def SWalk : GSpec := fun rs M Kk => ∃ T n key, IsTab T n ∧ rs = [.pu (tab T), .pu (.int key)] ∧ M = [] ∧ ∀ M', Kk (.pu (runD (run T n key))) M'
/-- how the walk stands -/
def WkAt (T : Tab) (n : Nat) (key : Int) (fu : Nat) (ρ : List SD) (M : Mem) : Prop := ∃ (i c : Nat) (L : List (Nat × Nat)) (v : SD) (l : Addr),
  ρ = [.pu (tab T), .pu (.int key), .rf (.ref l), .pu (.int i), .pu (.int ((c : Int) - 1)), v] ∧ M = [(l, .lst (L.map pld))] ∧ i ≤ T.length ∧ c ≤ n ∧ (T.length - i) + c ≤ fu ∧ L.length + fu = T.length + n ∧ L ++ (go T key fu i c).1 = (run T n key).1 ∧ (go T key fu i c).2 = (run T n key).2
def WkEnd (T : Tab) (n : Nat) (key : Int) (ρ : List SD) (M : Mem) : Prop := ∃ (v : SD) (l : Addr), ρ = [.pu (tab T), .pu (.int key), .rf (.ref l), .pu (.int (run T n key).2.1), .pu (.int (run T n key).2.2), v] ∧ M = [(l, .lst ((run T n key).1.map pld))]
theorem fWalk (F : Fun K "walk" "walk" sWalk f fd) (b : Bl mg) : FnG P w K mg base (k + 1) f fd ["table", "key"] SWalk := by
  refine fnG F scWalk (fun rs M Kk ⟨T, n, key, t, e, _⟩ => by rw [e]; rfl) fun cdv A outer s H hgd hr rs M Kk hS => ?_
  obtain ⟨T, n, key, t, rfl, rfl, q⟩ := hS
  refine bcons (sset 2 scWalk.nd (glst (anil ⟨Nat.zero_le _, fun l => ?_⟩)))
  refine bcons (sset 3 scWalk.nd (gi ?_))
  refine bcons (sset 4 scWalk.nd (gsub (glen b.len (gix (gv 0 rfl (gi ⟨(0 : Nat), _, rfl, tab_ix t.pos, _, row_len, _, rfl, gi ⟨1, rfl, ?_⟩⟩))))))
  rw [t.row t.pos]
  refine bseq (WkEnd T n key) (swhile PassesOwn.never (WkAt T n key) (T.length + n) ⟨0, n, [], .un, l, rfl, rfl, Nat.zero_le _, Nat.le_refl _, by omega, by simp, rfl, rfl⟩ fun fu ρ' M' h => ?_) fun ρ' M' h => ?_
  · obtain ⟨i, c, L, v, l, rfl, rfl, hi, hc, hf, hL, e1, e2⟩ := h
    refine tand (tlt (gv 3 rfl ⟨_, rfl, glen b.len (gv 0 rfl ⟨_, tab_len, _, rfl, ?_⟩)⟩))
    have done : ¬ (i < T.length ∧ 0 < c) → WkEnd T n key [.pu (tab T), .pu (.int key), .rf (.ref l), .pu (.int i), .pu (.int ((c : Int) - 1)), v] [(l, .lst (L.map pld))] := fun hn => by
      have g : go T key fu i c = ([], ((i : Int), (c : Int) - 1)) := by
        cases fu with
        | zero => rfl
        | succ fu =>
          unfold go
          rw [if_neg hn]
      rw [g] at e1 e2
      simp only [List.append_nil] at e1
      exact ⟨v, l, by rw [← e2], by rw [← e1]⟩
    refine iteB (fun h => ?_) fun h => done ?_
    · refine tge (gv 4 rfl ⟨_, rfl, gi ⟨0, rfl, iteB (fun h2 => ?_) fun h2 => done ?_⟩⟩)
      · have h1 : i < T.length := by simpa using h
        have h3 : 0 < c := by
          have := of_decide_eq_true h2
          omega
        obtain ⟨fu, rfl⟩ : ∃ f', fu = f' + 1 := ⟨fu - 1, by omega⟩
        have hj : c - 1 < n := by omega
        have hcc : (c : Int) - 1 = ((c - 1 : Nat) : Int) := by omega
        have g : go T key (fu + 1) i c = if val T i (c - 1) = key then ([(i, c - 1)], ((i : Int), (c : Int) - 1)) else if val T i (c - 1) < key then ((i, c - 1) :: (go T key fu (i + 1) c).1, (go T key fu (i + 1) c).2) else ((i, c - 1) :: (go T key fu i (c - 1)).1, (go T key fu i (c - 1)).2) := by
          show (if i < T.length ∧ 0 < c then _ else _) = _
          rw [if_pos ⟨h1, h3⟩]
        rw [g] at e1 e2
        have h8 := t.le
        have h9 := t.nle
        rw [hcc] at e1 e2 ⊢
        refine bcons (sexpr (gapp (gv 2 rfl ⟨l, _, rfl, List.mem_cons_self, gtup (acons (gv 3 rfl (acons (gv 4 rfl (anil ⟨[.int i, .int ((c - 1 : Nat) : Int)], rfl, le2, L.map pld, [], [], rfl, ?_, ?_⟩)))))⟩)))
        · rw [List.length_map]
          omega
        refine bcons (sset 5 scWalk.nd (gix (gix (gv 0 rfl (gv 3 rfl ⟨(i : Nat), _, rfl, tab_ix h1, gv 4 rfl ⟨((c - 1 : Nat) : Int), _, rfl, val_ix t h1 hj, ?_⟩⟩)))))
        refine bcons (sif (teqI (gv 5 rfl ⟨_, rfl, gv 1 rfl ⟨_, rfl, iteB (fun hv => bone (sbreak ?_)) fun hv => bnil (bone (sif (tlt (gv 5 rfl ⟨_, rfl, gv 1 rfl ⟨_, rfl, iteB (fun hv2 => bone ?_) fun hv2 => bone ?_⟩⟩))))⟩⟩)))
        · rw [if_pos (of_decide_eq_true hv)] at e1 e2
          refine ⟨.pu (.int (val T i (c - 1))), l, ?_, ?_⟩
          · rw [← e2]
            rfl
          · rw [← e1, List.map_append]
            rfl
        · have hv := of_decide_eq_false hv
          rw [if_neg hv, if_pos (of_decide_eq_true hv2)] at e1 e2
          refine saug 3 scWalk.nd rfl (gi ⟨1, rfl, fu, Nat.lt_succ_self fu, i + 1, c, L ++ [(i, c - 1)], .pu (.int (val T i (c - 1))), l, ?_, ?_, by omega, hc, by omega, ?_, ?_, e2⟩)
          · rw [hcc]
            rfl
          · rw [List.map_append]
            rfl
          · rw [List.length_append, List.length_singleton]
            omega
          · rw [← e1, List.append_assoc]
            rfl
        · have hv := of_decide_eq_false hv
          rw [if_neg hv, if_neg (of_decide_eq_false hv2)] at e1 e2
          refine saugs 4 scWalk.nd rfl (gi ⟨1, rfl, fu, Nat.lt_succ_self fu, i, c - 1, L ++ [(i, c - 1)], .pu (.int (val T i (c - 1))), l, rfl, ?_, hi, by omega, by omega, ?_, ?_, e2⟩)
          · rw [List.map_append]
            rfl
          · rw [List.length_append, List.length_singleton]
            omega
          · rw [← e1, List.append_assoc]
            rfl
      · have := of_decide_eq_false h2
        omega
    · have := of_decide_eq_false h
      omega
  · obtain ⟨v, l, rfl, rfl⟩ := h
    rw [pld_map]
    exact bone (sret (gtup (acons (gz (gv 2 rfl ⟨l, (run T n key).1.map plD, [], rfl, rfl, acons (gtup (acons (gv 3 rfl (acons (gv 4 rfl (anil ⟨_, rfl, le2, anil ⟨[.list ((run T n key).1.map plD), enD (run T n key).2], rfl, le2, q _⟩⟩))))))⟩)))))
/-! ### turned -/
theorem scTurned : FnScope ["table", "column"] ["table"] (defScope sTurned) := ⟨rfl, rfl, rfl, by decide +kernel, rfl, by decide +kernel, by decide +kernel⟩
def STurned : GSpec := fun rs M Kk => ∃ T n, IsTab T n ∧ rs = [.pu (tab T)] ∧ M = [] ∧ ∀ M', Kk (.pu (tab (turn T n))) M'
theorem fTurned (F : Fun K "turned" "turned" sTurned f fd) (b : Bl mg) : FnG P w K mg base (k + 1) f fd ["table"] STurned := by
  refine fnG F scTurned (fun rs M Kk ⟨T, n, t, e, _⟩ => by rw [e]; rfl) fun cdv A outer s H hgd hr rs M Kk hS => ?_
  obtain ⟨T, n, t, rfl, rfl, q⟩ := hS
  refine bone (sret (gz (glc (.name 1) (own := [("column", 1)]) rfl scTurned.nd (blkOk_by (N := ["table", "column"]) (sc := defScope sTurned) (by decide +kernel)) (fun _ _ _ _ _ => pg_name (i := 1) scTurned.nd rfl (Or.inl rfl)) (by decide) (igzips b.zip (gv 0 rfl ⟨T.map fun r => r.map .int, n, ?_, ?_, ?_, ?_, ?_⟩)))))
  · rw [List.map_map]
    rfl
  · rw [List.length_map]
    exact t.pos
  · rw [List.length_map]
    exact t.le
  · intro r hr
    obtain ⟨r', hr', e⟩ := List.mem_map.mp hr
    rw [← e, List.length_map]
    exact t.rows _ hr'
  · refine lc_map (fun j => .pu (rowD (T.map fun r => r.getD j 0))) (Nat.le_trans t.nle (by decide)) (fun j hj => ?_) fun l => ?_
    · rw [col_turn t hj]
      refine ⟨_, rfl, ?_⟩
      rintro Y ⟨s', H', C, cl, fp, rfl⟩
      exact gz (glist b.list (gv 1 rfl ⟨_, .tup, fun l => ⟨l, _, [], rfl, rfl, rfl, rfl⟩⟩))
    · refine ⟨l, (turn T n).map rowD, [], rfl, ?_, q _⟩
      unfold turn
      rw [List.map_map, List.map_map]
      rfl
/-! ### _places_found -/
abbrev NPF : List Str := ["table", "row", "values", "column", "value"]
def SPF : GSpec := fun rs M Kk => ∃ T n, IsTab T n ∧ rs = [.pu (tab T)] ∧ M = [] ∧ ∀ l, Kk (.rf (.ref l)) [(l, .lst ((foundIn T n).map pld))]
theorem walk_mono : ∀ rs M Kk Kk', SWalk rs M Kk → (∀ r M', Kk r M' → Kk' r M') → SWalk rs M Kk' := fun rs M Kk Kk' ⟨T, n, key, t, e, m, q⟩ h => ⟨T, n, key, t, e, m, fun M' => h _ _ (q M')⟩
end
end K01

namespace K01
open PySem PySem.Spec PyProof.Rows L2 G
section
variable {P : Program} {w : World} {K : PySem.W.Frag} {mg : Str → Option Value} {base : Heap} {f : Addr} {fd : FuncData} {k : Nat}
/-! ### places -/
def SPair : GSpec := fun rs M Kk => ∃ p, rs = [pld p] ∧ M = [] ∧ ∀ M', Kk (.pu (.bool true)) M'
theorem whole_mono : ∀ rs M Kk Kk', SWhole rs M Kk → (∀ r M', Kk r M' → Kk' r M') → SWhole rs M Kk' := fun rs M Kk Kk' ⟨i, e, m, q⟩ h => ⟨i, e, m, h _ _ q⟩
abbrev NWithin : List Str := ["place", "rows", "columns", "row", "column"]
def SWithin : GSpec := fun rs M Kk => ∃ (p : Nat × Nat) (m n : Nat), rs = [pld p, .pu (.int m), .pu (.int n)] ∧ p.1 < m ∧ p.2 < n ∧ M = [] ∧ ∀ M', Kk (.pu (.bool true)) M'
def SCkPl : GSpec := fun rs M Kk => ∃ (p : Nat × Nat) (m n : Nat), rs = [pld p, .pu (.int m), .pu (.int n)] ∧ p.1 < m ∧ p.2 < n ∧ M = [] ∧ ∀ M', Kk (.pu .none) M'
/-! ### what the search finds -/
theorem ckTab_mono : ∀ rs M Kk Kk', SCkTab rs M Kk → (∀ r M', Kk r M' → Kk' r M') → SCkTab rs M Kk' := fun rs M Kk Kk' ⟨T, n, t, e, m, q⟩ h => ⟨T, n, t, e, m, fun M' => h _ _ (q M')⟩
theorem ckPl_mono : ∀ rs M Kk Kk', SCkPl rs M Kk → (∀ r M', Kk r M' → Kk' r M') → SCkPl rs M Kk' := fun rs M Kk Kk' ⟨p, a, c, e, h1, h2, m, q⟩ h => ⟨p, a, c, e, h1, h2, m, fun M' => h _ _ (q M')⟩
theorem turned_mono : ∀ rs M Kk Kk', STurned rs M Kk → (∀ r M', Kk r M' → Kk' r M') → STurned rs M Kk' := fun rs M Kk Kk' ⟨T, n, t, e, m, q⟩ h => ⟨T, n, t, e, m, fun M' => h _ _ (q M')⟩
abbrev NFound : List Str := ["table", "place", "row", "column"]
def SFound : GSpec := fun rs M Kk => ∃ T n p, IsTab T n ∧ rs = [.pu (tab T), pld p] ∧ p.1 < T.length ∧ p.2 < n ∧ M = [] ∧ ∀ M', Kk (.pu (.bool (isF T n p.1 p.2))) M'
def SAll : GSpec := fun rs M Kk => ∃ T n, IsTab T n ∧ rs = [.pu (tab T)] ∧ M = [] ∧ ∀ M', Kk (.pu (.bool (decide (((foundIn T n).length : Int) = (T.length : Int) * (n : Int))))) M'
abbrev NBelow : List Str := ["table", "row", "column"]
def SBelow : GSpec := fun rs M Kk => ∃ T n, IsTab T n ∧ rs = [.pu (tab T)] ∧ M = [] ∧ ∀ l qs, List.Perm qs (belowOf T n) → qs.Pairwise lexLe → Kk (.rf (.ref l)) [(l, .lst (qs.map end_))]
abbrev NMissed : List Str := ["table", "found", "row", "column", "values", "value"]
/-- the values that stand at no found place, as the set comes to them -/
def missOf (T : Tab) (n : Nat) : List Int := mem2 T.length (fun _ => n) (fun i j => !((fvals T n).map PyData.int).any fun z => PyData.eqv z (.int (val T i j))) (val T)
def SMissed : GSpec := fun rs M Kk => ∃ T n, IsTab T n ∧ rs = [.pu (tab T)] ∧ M = [] ∧ ∀ l ns, ns.Pairwise (· < ·) → (∀ k, k ∈ ns ↔ k ∈ missOf T n) → Kk (.rf (.ref l)) [(l, .lst (pints ns))]
theorem shaped_ints (ns : List Int) : SeqAt.shaped (.list (ns.map .int)) = true := by
  have h : ∀ ns : List Int, PyData.canLayAll0 (ns.map .int) = true ∧ PyData.depthAll (ns.map .int) = 0 := by
    intro ns
    induction ns with
    | nil => exact ⟨rfl, rfl⟩
    | cons n ns ih => exact ⟨by simp only [List.map_cons, PyData.canLayAll0, PyData.canLay0, ih.1, Bool.and_self], by simp only [List.map_cons, PyData.depthAll, PyData.depth, ih.2, Nat.max_self]⟩
  unfold SeqAt.shaped
  simp only [PyData.canLay0, (h ns).1, PyData.depth, (h ns).2]
  rfl
end
end K01

namespace K01
open PySem PySem.Spec PyProof.Rows L2 G
abbrev sDraws : Stmt := topS 18
abbrev sNext : Stmt := topS 19
abbrev sOrder : Stmt := topS 20
abbrev sTable : Stmt := topS 21
abbrev sNearly : Stmt := topS 22
abbrev sWay : Stmt := topS 23
theorem cpow6 : CPow 10 6 := ⟨by decide, by decide, by decide⟩
theorem cdiv6 (a : Int) : CDiv a (10 ^ (6 : Int).toNat) := ⟨by decide, by decide⟩
/-! ### the draws -/
/-- a list of draws that has given at most N numbers -/
def DrAt (N : Nat) (xs : List SD) : Prop := ∃ (a : Int) (k : Nat) (b : Bool), xs = [.pu (.int a), .pu (.int k), .pu (.bool b)] ∧ k ≤ N
section
variable {P : Program} {w : World} {K : PySem.W.Frag} {mg : Str → Option Value} {base : Heap} {f : Addr} {fd : FuncData} {k : Nat}
abbrev NNext : List Str := ["_law_draws_here", "_law_k", "_law_number"]
theorem scNext : FnScope NNext ["_law_draws_here"] (defScope sNext) := ⟨rfl, rfl, rfl, by decide +kernel, rfl, by decide +kernel, by decide +kernel⟩
def SNext : GSpec := fun rs M Kk => ∃ D xs N, rs = [.rf (.ref D)] ∧ M = [(D, .lst xs)] ∧ DrAt N xs ∧ N ≤ 1000000 ∧ ∀ (n : Nat) ys, n < 2 ^ 31 → DrAt (N + 1) ys → Kk (.pu (.int n)) [(D, .lst ys)]
theorem fNext (F : Fun K "_law_next" "_law_next" sNext f fd) (b : Bl mg) : FnG P w K mg base (k + 1) f fd ["_law_draws_here"] SNext := by
  refine fnG F scNext (fun rs M Kk ⟨D, xs, N, e, _⟩ => by rw [e]; rfl) fun cdv A outer s H hgd hr rs M Kk hS => ?_
  obtain ⟨D, xs, N, rfl, rfl, ⟨a, j, bb, rfl, hj⟩, hN, q⟩ := hS
  have at0 : ∀ {u v w : SD}, atI [u, v, w] ((0 : Nat) : Int) = some u := fun {u v w} => atI_nat rfl
  have at1 : ∀ {u v w : SD}, atI [u, v, w] ((1 : Nat) : Int) = some v := fun {u v w} => atI_nat rfl
  have at2 : ∀ {u v w : SD}, atI [u, v, w] ((2 : Nat) : Int) = some w := fun {u v w} => atI_nat rfl
  refine bcons (sasg (gadd (gix (gv 0 rfl (gi ⟨(1 : Nat), _, rfl, .mem List.mem_cons_self at1, _, rfl, gi ⟨1, rfl, ?_⟩⟩)))))
  refine tgsub (gv 0 rfl (gi ⟨D, 1, 1, _, [], [], rfl, rfl, rfl, rfl, ?_⟩))
  refine bcons (sset 1 scNext.nd (gix (gv 0 rfl (gi ⟨(1 : Nat), _, rfl, .mem List.mem_cons_self at1, ?_⟩))))
  refine bcons (sif (tval (gix (gv 0 rfl (gi ⟨(2 : Nat), _, rfl, .mem List.mem_cons_self at2, bb, rfl, iteB (fun hb => ?_) fun hb => bnil ?_⟩)))))
  · have e6 : (10 : Int) ^ (6 : Int).toNat = 1000000 := by decide
    refine bcons (sset 2 scNext.nd (gmod (gint b.int (gix (gv 0 rfl (gi ⟨(0 : Nat), _, rfl, .mem List.mem_cons_self at0, _, rfl, a, rfl, gpow (gi ⟨10, rfl, gi ⟨6, rfl, cpow6, _, rfl, by decide, ?_⟩⟩)⟩))))))
    refine bcons (sasg (gdiv (gix (gv 0 rfl (gi ⟨(0 : Nat), _, rfl, .mem List.mem_cons_self at0, a, rfl, gpow (gi ⟨10, rfl, gi ⟨6, rfl, cpow6, _, rfl, cdiv6 a, ?_⟩⟩)⟩)))))
    refine tgsub (gv 0 rfl (gi ⟨D, 0, 0, _, [], [], rfl, rfl, rfl, rfl, ?_⟩))
    obtain ⟨n, e, hn⟩ : ∃ n : Nat, a % (10 : Int) ^ (6 : Int).toNat = n ∧ n < 2 ^ 31 := by
      have h1 := Int.emod_nonneg a (show (1000000 : Int) ≠ 0 by decide)
      have h2 := Int.emod_lt_of_pos a (show (0 : Int) < 1000000 by decide)
      rw [e6]
      exact ⟨(a % 1000000).toNat, (Int.toNat_of_nonneg h1).symm, by omega⟩
    refine bone (sret (gv 2 rfl ?_))
    rw [e]
    exact q n _ hn ⟨_, j + 1, bb, rfl, by omega⟩
  · have keep : DrAt (N + 1) [.pu (.int a), .pu (.int ((j : Int) + 1)), .pu (.bool bb)] := ⟨a, j + 1, bb, rfl, by omega⟩
    have hj2 : (j : Int) + 1 < 2 ^ 64 := by omega
    have md : ∀ (x m : Int), 0 < m → ∃ n : Nat, x % m = n ∧ (n : Int) < m := fun x m hm => ⟨(x % m).toNat, (Int.toNat_of_nonneg (Int.emod_nonneg x (by omega))).symm, by rw [Int.toNat_of_nonneg (Int.emod_nonneg x (by omega))]; exact Int.emod_lt_of_pos x hm⟩
    refine bcons (sset 2 scNext.nd (gmod (gint b.int (gmul ?_))))
    refine gadd (gadd (gmod (gint b.int (gix (gv 0 rfl (gi ⟨(0 : Nat), _, rfl, .mem List.mem_cons_self at0, a, rfl, _, rfl, gi ⟨1000003, rfl, by decide, _, rfl, ?_⟩⟩))))))
    refine gmul (gmul (gv 1 rfl ⟨_, rfl, gv 1 rfl ⟨_, rfl, .inl ⟨by omega, hj2⟩, _, rfl, gi ⟨7919, rfl, .inr ⟨by decide, by decide⟩, _, rfl, _, rfl, ?_⟩⟩⟩))
    refine gv 1 rfl ⟨_, rfl, _, rfl, gi ⟨48271, rfl, .inr ⟨by decide, by decide⟩, _, rfl, _, rfl, gi ⟨2147483629, rfl, by decide, ?_⟩⟩⟩
    obtain ⟨n1, e1, h1⟩ := md ((a % 1000003 + ((j : Int) + 1) * ((j : Int) + 1) * 7919 + ((j : Int) + 1)) * 48271) 2147483629 (by decide)
    rw [e1]
    refine bcons (sset 2 scNext.nd (gmod (gint b.int (gmul ?_))))
    refine gv 2 rfl ⟨_, rfl, gv 2 rfl ⟨_, rfl, .inl ⟨by omega, by omega⟩, _, rfl, _, rfl, gi ⟨2147483587, rfl, by decide, ?_⟩⟩⟩
    obtain ⟨n2, e2, h2⟩ := md ((n1 : Int) * n1) 2147483587 (by decide)
    rw [e2]
    refine bone (sret (gdiv (gmod (gint b.int (gmul ?_)))))
    refine gv 2 rfl ⟨_, rfl, gadd (gv 2 rfl ⟨_, rfl, gi ⟨2, rfl, _, rfl, .inl ⟨by omega, by omega⟩, _, rfl, _, rfl, ?_⟩⟩)⟩
    refine gi ⟨2147483579, rfl, by decide, _, rfl, gi ⟨7, rfl, ⟨by decide, by decide⟩, ?_⟩⟩
    obtain ⟨n3, e3, h3⟩ := md ((n2 : Int) * ((n2 : Int) + 2)) 2147483579 (by decide)
    rw [e3]
    have e4 : (n3 : Int) / 7 = ((n3 / 7 : Nat) : Int) := rfl
    rw [e4]
    exact q _ _ (by omega) keep
end
end K01

namespace K01
open PySem PySem.Spec PyProof.Rows L2 G
abbrev rgI (s : Nat) : List Int := (List.range s).map fun i : Nat => (i : Int)
theorem pints_len (ns : List Int) : (pints ns).length = ns.length := List.length_map ..
theorem pints_at {ns : List Int} {i : Nat} (h : i < ns.length) : (pints ns)[i]? = some (.pu (.int ns[i])) := by rw [List.getElem?_map, List.getElem?_eq_getElem h]; rfl
theorem pints_app (a b : List Int) : pints (a ++ b) = pints a ++ pints b := List.map_append
theorem pints_erase (ns : List Int) (i : Nat) : (pints ns).eraseIdx i = pints (ns.eraseIdx i) := by
  induction ns generalizing i with
  | nil => rfl
  | cons n ns ih =>
    cases i with
    | zero => rfl
    | succ i => exact congrArg (_ :: ·) (ih i)
section
variable {P : Program} {w : World} {K : PySem.W.Frag} {mg : Str → Option Value} {base : Heap} {f : Addr} {fd : FuncData} {k : Nat}
abbrev NOrder : List Str := ["_law_draws_here", "_law_size", "_law_left", "_law_told", "_law_k"]
theorem scOrder : FnScope NOrder ["_law_draws_here", "_law_size"] (defScope sOrder) := ⟨rfl, rfl, rfl, by decide +kernel, rfl, by decide +kernel, by decide +kernel⟩
def SOrder : GSpec := fun rs M Kk => ∃ (D : Addr) (xs : List SD) (N s : Nat), rs = [.rf (.ref D), .pu (.int s)] ∧ M = [(D, .lst xs)] ∧ DrAt N xs ∧ s ≤ 100 ∧ N + s ≤ 1000000 ∧ ∀ l (ns : List Int) ys, ns.Perm (rgI s) → DrAt (N + s) ys → Kk (.rf (.ref l)) [(D, .lst ys), (l, .lst (pints ns))]
theorem fOrder (F : Fun K "_law_order" "_law_order" sOrder f fd) (b : Bl mg) (CN : Cal P w K mg base k "_law_next" sNext ["_law_draws_here"] SNext) : FnG P w K mg base (k + 1) f fd ["_law_draws_here", "_law_size"] SOrder := by
  refine fnG F scOrder (fun rs M Kk ⟨D, xs, N, s, e, _⟩ => by rw [e]; rfl) fun cdv A outer s0 H hgd hr rs M Kk hS => ?_
  obtain ⟨D, xs, N, s, rfl, rfl, dr, hs, hN, q⟩ := hS
  refine bcons (sset 2 scOrder.nd (glistr rfl b.list b.range (gv 1 rfl ⟨s, rfl, by omega, fun L => ?_⟩)))
  refine bcons (sset 3 scOrder.nd (glst (anil ⟨Nat.zero_le _, fun t => ?_⟩)))
  refine gbperm (M2 := [(D, .lst xs), (t, .lst (pints [])), (L, .lst (pints (rgI s)))]) ?_ ?_
  · exact (List.perm_append_comm (l₁ := [(t, MO.lst []), (L, MO.lst (pints (rgI s)))]) (l₂ := [(D, MO.lst xs)]))
  refine bseq (fun ρ' M' => ∃ told ys z, ρ' = [.rf (.ref D), .pu (.int s), .rf (.ref L), .rf (.ref t), z] ∧ M' = [(D, .lst ys), (t, .lst (pints told)), (L, .lst (pints []))] ∧ List.Perm told (rgI s) ∧ DrAt (N + s) ys) ?_ fun ρ' M' h => ?_
  · refine sfor PassesOwn.never rfl (igr1 b.range (gv 1 rfl ⟨s, rfl, by omega, by omega, fun i ρ' M' => ∃ told left ys z, ρ' = [.rf (.ref D), .pu (.int s), .rf (.ref L), .rf (.ref t), z] ∧ M' = [(D, .lst ys), (t, .lst (pints told)), (L, .lst (pints left))] ∧ List.Perm (told ++ left) (rgI s) ∧ told.length = i ∧ DrAt (N + i) ys, ?_, fun i ρ' M' hi h => ?_, fun ρ' M' h => ?_⟩))
    · exact ⟨[], rgI s, xs, .un, rfl, rfl, .refl _, rfl, dr⟩
    · obtain ⟨told, left, ys, z, rfl, rfl, hp, hl, hd⟩ := h
      have hi : i < s := by simpa using hi
      have len : told.length + left.length = s := by
        have := hp.length_eq
        simpa using this
      refine tgname 4 ?_ scOrder.nd
      refine bone (sexpr (gapp (gv 3 rfl ⟨t, _, rfl, List.mem_cons_of_mem _ List.mem_cons_self, ?_⟩)))
      refine gpop (gv 2 rfl ⟨L, _, rfl, List.mem_cons_of_mem _ (List.mem_cons_of_mem _ List.mem_cons_self), ?_⟩)
      refine gmod (gint b.int (gcal CN hgd hr (acons (gv 0 rfl (anil ⟨[(D, .lst ys)], [(t, .lst (pints told)), (L, .lst (pints left))], .refl _, D, ys, N + i, rfl, rfl, hd, by omega, fun n ys' hn hd' => ?_⟩)))))
      have hlt : n % left.length < left.length := Nat.mod_lt _ (by omega)
      refine ⟨_, rfl, _, rfl, glen b.len (gv 2 rfl ⟨_, Len.lst (.mem (List.mem_cons_of_mem _ (List.mem_cons_of_mem _ List.mem_cons_self))), _, rfl, ?_, n % left.length, .pu (.int (left[n % left.length])), pints left, [(D, .lst ys'), (t, .lst (pints told))], [], ?_, rfl, by omega, pints_at hlt, pints told, [(D, .lst ys')], [(L, .lst (pints (left.eraseIdx (n % left.length))))], ?_, ?_, ?_⟩)⟩
      · rw [pints_len]
        omega
      · rw [pints_len]
        rfl
      · rw [pints_erase]
        rfl
      · rw [pints_len]
        omega
      · refine ⟨told ++ [left[n % left.length]], left.eraseIdx (n % left.length), ys', _, rfl, ?_, ?_, ?_, hd'⟩
        · rw [pints_app]
          rfl
        · have e := erase_perm left (n % left.length) _ (List.getElem?_eq_getElem hlt)
          have e2 := (List.Perm.append_left told e).trans hp
          rw [List.append_assoc]
          exact e2
        · rw [List.length_append, hl]
          rfl
    · obtain ⟨told, left, ys, z, rfl, rfl, hp, hl, hd⟩ := h
      have hl : told.length = s := by simpa using hl
      have el : left = [] := by
        have := hp.length_eq
        rw [List.length_append, List.length_map, List.length_range] at this
        exact List.length_eq_zero_iff.mp (by omega)
      subst el
      rw [List.append_nil] at hp
      refine ⟨told, ys, z, rfl, rfl, hp, ?_⟩
      simpa using hd
  · obtain ⟨told, ys, z, rfl, rfl, hp, hd⟩ := h
    refine bone (sret (gf (gv 3 rfl ⟨[(D, .lst ys), (t, .lst (pints told))], ?_, ?_⟩)))
    · exact List.Sublist.cons_cons _ (List.Sublist.cons_cons _ (List.nil_sublist _))
    · exact q t told ys hp hd
end
end K01

namespace K01
open PySem PySem.Spec PyProof.Rows L2 G
/-- values of a drawn table -/
abbrev VB (ns : List Int) : Prop := ∀ v ∈ ns, v.natAbs ≤ 10 ^ 40
theorem DrAt.mono {N N' : Nat} {xs : List SD} (h : DrAt N xs) (hn : N ≤ N') : DrAt N' xs := by
  obtain ⟨a, k, b, e, hk⟩ := h
  exact ⟨a, k, b, e, Nat.le_trans hk hn⟩
theorem rgc_all : ∀ m : Fin 9, ∀ n : Fin 9, 0 < m.val → 0 < n.val → Builtin.Range.small 0 ((m.val * n.val : Nat) : Int) (n.val : Int) = true ∧ Builtin.Range.rangeSize 0 ((m.val * n.val : Nat) : Int) (n.val : Int) = m.val := by decide +kernel
theorem rgc {m n : Nat} (h1 : 0 < m) (h2 : m ≤ 8) (h3 : 0 < n) (h4 : n ≤ 8) : RgC 0 ((m * n : Nat) : Int) (n : Int) m := by
  obtain ⟨a, b⟩ := rgc_all ⟨m, by omega⟩ ⟨n, by omega⟩ h1 h3
  exact ⟨by omega, by omega, a, b⟩
theorem flat_len {T : Tab} {n : Nat} (h : ∀ r ∈ T, r.length = n) : T.flatten.length = T.length * n := by
  induction T with
  | nil => simp
  | cons r T ih =>
    rw [List.flatten_cons, List.length_append, h r List.mem_cons_self, ih fun r hr => h r (List.mem_cons_of_mem _ hr), List.length_cons, Nat.succ_mul, Nat.add_comm]
/-- a list cut into rows -/
def rowsOf (m n : Nat) (L : List Int) : Tab := (List.range m).map fun i => (L.drop (i * n)).take n
theorem rows_row {m n i : Nat} {L : List Int} (hl : L.length = m * n) (h : i < m) : ((L.drop (i * n)).take n).length = n := by
  rw [List.length_take, List.length_drop, hl]
  have : (i + 1) * n ≤ m * n := Nat.mul_le_mul_right n h
  rw [Nat.succ_mul] at this
  omega
theorem rows_is {m n : Nat} {L : List Int} (h1 : 0 < m) (h2 : m ≤ 8) (h3 : 0 < n) (h4 : n ≤ 8) (hl : L.length = m * n) : IsTab (rowsOf m n L) n where
  pos := by simp [rowsOf, h1]
  le := by simp [rowsOf, h2]
  npos := h3
  nle := h4
  rows := fun r hr => by
    obtain ⟨i, hi, e⟩ := List.mem_map.mp hr
    rw [← e]
    exact rows_row hl (List.mem_range.mp hi)
theorem rows_vb {m n : Nat} {L : List Int} (h : VB L) : VB (rowsOf m n L).flatten := fun v hv => by
  obtain ⟨r, hr, hv⟩ := List.mem_flatten.mp hv
  obtain ⟨i, _, e⟩ := List.mem_map.mp hr
  rw [← e] at hv
  exact h v (List.mem_of_mem_drop (List.mem_of_mem_take hv))
theorem ixN_nat {len j : Nat} (h : j < len) : ixN len (j : Int) = some j := by
  unfold ixN
  rw [if_pos (by omega), if_pos (by omega)]
  simp
theorem pints_set (L : List Int) (i : Nat) (v : Int) : (pints L).set i (.pu (.int v)) = pints (L.set i v) := (List.map_set ..).symm
theorem pints_flat (T : Tab) : (T.map pints).flatten = pints T.flatten := by
  unfold pints
  rw [List.map_flatten]
theorem pints_cut (L : List Int) (i j : Nat) : ((pints L).drop i).take j = pints ((L.drop i).take j) := by
  unfold pints
  rw [List.map_take, List.map_drop]
theorem pints_pu (L : List Int) : pints L = (L.map PyData.int).map SD.pu := by
  rw [List.map_map]
  rfl
section
variable {P : Program} {w : World} {K : PySem.W.Frag} {mg : Str → Option Value} {base : Heap} {f : Addr} {fd : FuncData} {k : Nat}
abbrev NNearly : List Str := ["_law_draws_here", "_law_some", "_law_kind", "_law_told", "_law_wide", "_law_k", "_law_at", "_law_other"]
theorem scNearly : FnScope NNearly ["_law_draws_here", "_law_some", "_law_kind"] (defScope sNearly) := ⟨rfl, rfl, rfl, by decide +kernel, rfl, by decide +kernel, by decide +kernel⟩
def SNearly : GSpec := fun rs M Kk => ∃ (D : Addr) (xs : List SD) (N : Nat) (T : Tab) (n kind : Nat), rs = [.rf (.ref D), .pu (tab T), .pu (.int kind)] ∧ M = [(D, .lst xs)] ∧ DrAt N xs ∧ N ≤ 900000 ∧ IsTab T n ∧ VB T.flatten ∧ 3 ≤ kind ∧ kind < 6 ∧
  ∀ (T' : Tab) ys, IsTab T' n → T'.length = T.length → VB T'.flatten → DrAt (N + 20) ys → Kk (.pu (tab T')) [(D, .lst ys)]
theorem pick3 (kind : Nat) (h1 : 3 ≤ kind) (h2 : kind < 6) : ∃ q : Nat, 0 < q ∧ q ≤ 9 ∧ atI [SD.pu (.int 1), .pu (.int 4), .pu (.int 9)] ((kind : Int) - 3) = some (.pu (.int (q : Int))) := by
  obtain rfl | rfl | rfl : kind = 3 ∨ kind = 4 ∨ kind = 5 := by omega
  · exact ⟨1, by decide, by decide, rfl⟩
  · exact ⟨4, by decide, by decide, rfl⟩
  · exact ⟨9, by decide, by decide, rfl⟩
theorem fNearly (F : Fun K "_law_nearly" "_law_nearly" sNearly f fd) (b : Bl mg) (CN : Cal P w K mg base k "_law_next" sNext ["_law_draws_here"] SNext) : FnG P w K mg base (k + 1) f fd ["_law_draws_here", "_law_some", "_law_kind"] SNearly := by
  refine fnG F scNearly (fun rs M Kk ⟨D, xs, N, T, n, kind, e, _⟩ => by rw [e]; rfl) fun cdv A outer s0 H hgd hr rs M Kk hS => ?_
  obtain ⟨D, xs, N, T, n, kind, rfl, rfl, dr, hN, t, vb, hk1, hk2, q⟩ := hS
  have h8 := t.le
  have h9 := t.nle
  have fl := flat_len t.rows
  have hmn : T.length * n ≤ 64 := Nat.mul_le_mul h8 h9
  have hpos : 0 < T.length * n := Nat.mul_pos t.pos t.npos
  refine bcons (sset 3 scNearly.nd (gf (gsorted b.sorted (gsumL rfl b.sum (gv 1 rfl (glst (anil ⟨Nat.zero_le _, fun st => ⟨_, T.map pints, st, .pu, ?_, ?_, rfl, List.mem_cons_self, ?_, fun l0 => ⟨T.flatten, .mem ?_, fun l L hp hs => ⟨[(l, .lst (pints L)), (D, .lst xs)], ?_, ?_⟩⟩⟩⟩)))))) (hx := .inr rfl))
  · have lv : ∀ (T : Tab) (M : Mem), Paired (LV M) ((T.map rowD).map SD.pu) (T.map pints) := by
      intro T M
      induction T with
      | nil => exact .nil
      | cons r T ih =>
        refine .cons ?_ ih
        rw [pints_pu]
        exact .pu
    exact lv T _
  · have := t.pos
    intro e
    have e := congrArg List.length e
    simp at e
    rw [e] at this
    exact absurd this (by decide)
  · rw [pints_flat, pints_len, fl]
    omega
  · rw [pints_flat]
    exact List.mem_cons_self
  · exact List.Sublist.cons_cons _ (List.Sublist.cons _ (List.Sublist.cons _ (List.Sublist.refl _)))
  have hL : L.length = T.length * n := by rw [hp.length_eq, fl]
  have vL : VB L := fun v hv => vb v (hp.mem_iff.mp hv)
  clear hp hs
  refine bcons (sset 4 scNearly.nd (glen b.len (gix (gv 1 rfl (gi ⟨(0 : Nat), _, rfl, tab_ix t.pos, _, row_len, ?_⟩)))) (hx := .inr rfl))
  rw [t.row t.pos]
  refine bseq (fun ρ' M' => ∃ L ys z5 z6 z7, ρ' = [.rf (.ref D), .pu (tab T), .pu (.int kind), .rf (.ref l), .pu (.int n), z5, z6, z7] ∧ List.Sublist [(D, .lst ys), (l, .lst (pints L))] M' ∧ L.length = T.length * n ∧ VB L ∧ DrAt (N + 20) ys) ?_ fun ρ' M' h => ?_
  · refine sfor PassesOwn.never rfl (igr1 b.range (gmod (gint b.int (gcal CN hgd hr (acons (gv 0 rfl (anil ⟨[(D, .lst xs)], [(l, .lst (pints L))], List.Perm.swap .., D, xs, N, rfl, rfl, dr, by omega, fun n1 ys1 hn1 hd1 => ?_⟩)))))))
    obtain ⟨q3, hq1, hq2, hq3⟩ := pick3 kind hk1 hk2
    refine ⟨_, rfl, _, rfl, gix (glst ?_)⟩
    refine acons (gi (acons (gi (acons (gi (anil ⟨le3, fun l3 => ?_⟩))))))
    refine gsub (gv 2 rfl ⟨_, rfl, gi ⟨3, rfl, _, _, rfl, .mem List.mem_cons_self hq3, q3, rfl, by omega, _, rfl, ?_, ?_, ?_⟩⟩)
    · have := Int.emod_lt_of_pos (n1 : Int) (show (0 : Int) < q3 by omega)
      omega
    · have := Int.emod_nonneg (n1 : Int) (show (q3 : Int) ≠ 0 by omega)
      omega
    have cnt : ((n1 : Int) % (q3 : Int)).toNat ≤ 8 := by
      have := Int.emod_lt_of_pos (n1 : Int) (show (0 : Int) < q3 by omega)
      omega
    generalize ((n1 : Int) % (q3 : Int)).toNat = turns at cnt ⊢
    refine ⟨fun i ρ' M' => ∃ L ys z5 z6 z7, ρ' = [.rf (.ref D), .pu (tab T), .pu (.int kind), .rf (.ref l), .pu (.int n), z5, z6, z7] ∧ List.Sublist [(D, .lst ys), (l, .lst (pints L))] M' ∧ L.length = T.length * n ∧ VB L ∧ DrAt (N + 1 + 2 * i) ys, ?_, fun i ρ' M' hi h => ?_, fun ρ' M' h => ?_⟩
    · exact ⟨L, ys1, _, _, _, rfl, List.Sublist.cons _ (List.Sublist.refl _), hL, vL, hd1⟩
    · obtain ⟨L, ys, z5, z6, z7, rfl, sub, hL, vL, hd⟩ := h
      refine tgname 5 (gbforget sub ?_) scNearly.nd
      refine bcons (sset 6 scNearly.nd (gmod (gint b.int (gcal CN hgd hr (acons (gv 0 rfl (anil ⟨[(D, .lst ys)], [(l, .lst (pints L))], .refl _, D, ys, _, rfl, rfl, hd, by omega, fun n2 ys2 hn2 hd2 => ?_⟩)))))))
      refine ⟨_, rfl, _, rfl, glen b.len (gv 3 rfl ⟨_, Len.lst (.mem (List.mem_cons_of_mem _ List.mem_cons_self)), _, rfl, ?_, ?_⟩)⟩
      · rw [pints_len, hL]
        omega
      rw [pints_len, hL]
      obtain ⟨pp, ep, hpp⟩ : ∃ pp : Nat, (n2 : Int) % ((T.length * n : Nat) : Int) = pp ∧ pp < T.length * n := ⟨n2 % (T.length * n), rfl, Nat.mod_lt _ hpos⟩
      rw [ep]
      refine bcons (sset 7 scNearly.nd (gmin rfl b.min (gadd (gadd (gv 6 rfl ⟨_, rfl, gi ⟨1, rfl, _, rfl, ?_⟩⟩)))))
      refine gmod (gint b.int (gcal CN hgd hr (acons (gv 0 rfl (anil ⟨[(D, .lst ys2)], [(l, .lst (pints L))], .refl _, D, ys2, _, rfl, rfl, hd2, by omega, fun n3 ys3 hn3 hd3 => ?_⟩)))))
      refine ⟨_, rfl, _, rfl, gi ⟨3, rfl, by decide, _, rfl, _, rfl, gsub (glen b.len (gv 3 rfl ⟨_, Len.lst (.mem (List.mem_cons_of_mem _ List.mem_cons_self)), _, rfl, gi ⟨1, rfl, _, rfl, ?_⟩⟩))⟩⟩
      rw [pints_len, hL]
      obtain ⟨oo, eo, hoo⟩ : ∃ oo : Nat, (if ((T.length * n : Nat) : Int) - 1 < (pp : Int) + 1 + (n3 : Int) % 3 then ((T.length * n : Nat) : Int) - 1 else (pp : Int) + 1 + (n3 : Int) % 3) = oo ∧ oo < T.length * n := by
        have := Int.emod_nonneg (n3 : Int) (show (3 : Int) ≠ 0 by decide)
        split
        · exact ⟨T.length * n - 1, by omega, by omega⟩
        · exact ⟨((pp : Int) + 1 + (n3 : Int) % 3).toNat, by omega, by omega⟩
      rw [eo]
      have hp1 : pp < L.length := by omega
      have ho1 : oo < L.length := by omega
      refine bone (sasg (gtup (acons (gix (gv 3 rfl (gv 7 rfl ⟨(oo : Nat), .pu (.int L[oo]), rfl, .mem (List.mem_cons_of_mem _ List.mem_cons_self) (atI_nat (pints_at ho1)), ?_⟩))))))
      refine acons (gix (gv 3 rfl (gv 6 rfl ⟨(pp : Nat), .pu (.int L[pp]), rfl, .mem (List.mem_cons_of_mem _ List.mem_cons_self) (atI_nat (pints_at hp1)), anil ⟨[.int L[oo], .int L[pp]], rfl, le2, ?_⟩⟩)))
      refine tgtup rfl rfl (tgscons (tgsub (gv 3 rfl (gv 6 rfl ⟨l, pp, pp, pints L, [(D, .lst ys3)], [], rfl, rfl, rfl, ixN_nat (by rw [pints_len]; exact hp1), ?_⟩))))
      rw [pints_set]
      refine tgscons (tgsub (gv 3 rfl (gv 7 rfl ⟨l, oo, oo, pints (L.set pp L[oo]), [(D, .lst ys3)], [], rfl, rfl, rfl, ixN_nat (by rw [pints_len, List.length_set]; exact ho1), tgsnil ?_⟩)))
      rw [pints_set]
      refine ⟨(L.set pp L[oo]).set oo L[pp], ys3, _, _, _, rfl, List.Sublist.refl _, ?_, ?_, ?_⟩
      · rw [List.length_set, List.length_set, hL]
      · intro v hv
        rcases List.mem_or_eq_of_mem_set hv with h | h
        · rcases List.mem_or_eq_of_mem_set h with h | h
          · exact vL v h
          · rw [h]; exact vL _ (List.getElem_mem ho1)
        · rw [h]; exact vL _ (List.getElem_mem hp1)
      · exact hd3.mono (by omega)
    · obtain ⟨L, ys, z5, z6, z7, rfl, sub, hL, vL, hd⟩ := h
      exact ⟨L, ys, z5, z6, z7, rfl, sub, hL, vL, hd.mono (by omega)⟩
  · obtain ⟨L, ys, z5, z6, z7, rfl, sub, hL, vL, hd⟩ := h
    refine gbforget sub (bone (sret (gf (gz (glc (.name 6) (own := [("_law_at", 6)]) rfl scNearly.nd (blkOk_by (N := NNearly) (sc := defScope sNearly) (by decide +kernel)) (fun _ _ _ _ _ => pg_name (i := 6) scNearly.nd rfl (Or.inl rfl)) (by decide) (igr3 b.range (gi ⟨0, rfl, ?_⟩)))))))
    refine glen b.len (gv 3 rfl ⟨_, Len.lst (.mem (List.mem_cons_of_mem _ List.mem_cons_self)), _, rfl, gv 4 rfl ⟨(n : Int), T.length, rfl, ?_, ?_⟩⟩)
    · rw [pints_len, hL]
      exact rgc t.pos h8 t.npos h9
    refine lc_map (fun i => .pu (rowD ((L.drop (i * n)).take n))) (by omega) (fun i hi => ?_) fun l' => ⟨l', (rowsOf T.length n L).map rowD, [(D, .lst ys), (l, .lst (pints L))], rfl, ?_, [(D, .lst ys)], List.Sublist.cons_cons _ (List.nil_sublist _), q _ ys (rows_is t.pos h8 t.npos h9 hL) (by simp [rowsOf]) (rows_vb vL) hd⟩
    · refine ⟨_, rfl, ?_⟩
      rintro Y ⟨s', H', C, cl, fp, rfl⟩
      have e0 : (0 : Int) + (i : Int) * (n : Int) = ((i * n : Nat) : Int) := by rw [Int.zero_add, Int.natCast_mul]
      rw [e0]
      have hin : i * n + n ≤ L.length := by
        have : (i + 1) * n ≤ T.length * n := Nat.mul_le_mul_right n hi
        rw [Nat.succ_mul] at this
        omega
      refine gz (gsl (gv 3 rfl (show GO _ _ _ _ (some _) from gv 6 rfl ⟨_, rfl, show GO _ _ _ _ (some _) from gadd (gv 6 rfl ⟨_, rfl, gv 4 rfl ⟨_, rfl, _, rfl, pints L, .mem (List.mem_cons_of_mem _ List.mem_cons_self), fun l2 => ⟨l2, ((L.drop (i * n)).take n).map .int, _, rfl, ?_, rfl, rfl⟩⟩⟩)⟩)))
      have ec : ((i * n : Nat) : Int) + (n : Int) = ((i * n + n : Nat) : Int) := by rw [Int.natCast_add]
      rw [ec, cutL_nat (by omega) (by rw [pints_len]; exact hin), Nat.add_sub_cancel_left, pints_cut, pints_pu]
    · unfold rowsOf
      rw [List.map_map, List.map_map]
      rfl
end
end K01

namespace K01
open PySem PySem.Spec PyProof.Rows L2 G
abbrev intsD (L : List Int) : SD := .pu (.list (L.map .int))
theorem map_all {L : List Int} {φ : Int → Int} (c : Nat) (h : ∀ v ∈ L, (φ v).natAbs ≤ c) : ∀ v ∈ L.map φ, v.natAbs ≤ c := fun v hv => by
  obtain ⟨u, hu, e⟩ := List.mem_map.mp hv
  rw [← e]
  exact h u hu
/-- [e for v in xs] of ints, e a function of v: a new list, frozen -/
theorem lc_ints {X : Cx} {ρ : List SD} {M : Mem} {scope : Scope} {vs : List Nat} {elt : Expr} {Q : Kn} {j : Nat} {L : List Int} (φ : Int → Int) (hl : L.length ≤ 1000)
    (turn : ∀ v ∈ L, ∀ Y, Blk X scope Y → GE Y ((wipeR ρ vs).set j (.pu (.int v))) M elt fun r M2 => r = .pu (.int (φ v)) ∧ M2 = M) (fin : ∀ l, Q (.rf (.ref l)) ((l, .lst (((L.map φ).map PyData.int).map SD.pu)) :: M)) :
    LComp X scope ρ vs (.name j) [] elt Q (L.map PyData.int).length (nth (L.map PyData.int)) M := by
  rw [List.length_map]
  refine lc_map (fun i => .pu (.int (φ (L.getD i 0)))) (by omega) (fun i hi => ?_) fun l => ?_
  · rw [nth_map PyData.int 0 hi]
    exact ⟨_, rfl, turn _ (by rw [G.getD_at hi]; exact List.getElem_mem hi)⟩
  · rw [range_map L 0 (fun v => SD.pu (.int (φ v)))]
    have z := fin l
    rw [List.map_map, List.map_map] at z
    exact z
theorem gpm {X : Cx} {ρ : List SD} {M : Mem} {e : Expr} {Q : Kn} (h : GE X ρ M e fun r M' => ∃ M2, M'.Perm M2 ∧ Q r M2) : GE X ρ M e Q := .mk fun B F H σ Q' W S' s => h B F H σ Q' W S' fun r M' v F' H' q W' s' vv => by
  obtain ⟨M2, pm, q⟩ := q
  exact s r M2 v F' H' q (W'.perm pm) s' vv
/-- a and b, both of them tests that change nothing -/
theorem tandP {X : Cx} {ρ : List SD} {M : Mem} {a b : Expr} {pos : Pos} {QT : Bool → Mem → Prop} (k1 k2 : Bool) (h1 : GT X ρ M a fun k M' => k = k1 ∧ M' = M) (h2 : GT X ρ M b fun k M' => k = k2 ∧ M' = M) (h : QT (k1 && k2) M) : GT X ρ M (.BoolOp .And [a, b] pos) QT :=
  tand (h1.mono fun k M1 ⟨e1, e2⟩ => by
    subst e2
    subst e1
    cases k with
    | false => exact iteF h
    | true =>
      refine iteT (h2.mono fun k M2 ⟨e3, e4⟩ => ?_)
      subst e4
      subst e3
      exact h)
theorem order_small {s : Nat} {ns : List Int} (hp : ns.Perm (rgI s)) (hs : s ≤ 100) : ∀ v ∈ ns, v.natAbs ≤ 100 := fun v hv => by
  obtain ⟨i, hi, e⟩ := List.mem_map.mp (hp.mem_iff.mp hv)
  have := List.mem_range.mp hi
  omega
theorem pick4 (pick : Nat) : ∃ q : Nat, 0 < q ∧ q ≤ 90 ∧ atI [SD.pu (.int 1), .pu (.int 2), .pu (.int 4), .pu (.int 90)] ((pick : Int) / 4 % 4) = some (.pu (.int (q : Int))) := by
  have e : (pick : Int) / 4 % 4 = ((pick / 4 % 4 : Nat) : Int) := rfl
  rw [e]
  have h := Nat.mod_lt (pick / 4) (show 4 > 0 by decide)
  generalize pick / 4 % 4 = i at h ⊢
  obtain rfl | rfl | rfl | rfl : i = 0 ∨ i = 1 ∨ i = 2 ∨ i = 3 := by omega
  · exact ⟨1, by decide, by decide, rfl⟩
  · exact ⟨2, by decide, by decide, rfl⟩
  · exact ⟨4, by decide, by decide, rfl⟩
  · exact ⟨90, by decide, by decide, rfl⟩
section
variable {P : Program} {w : World} {K : PySem.W.Frag} {mg : Str → Option Value} {base : Heap} {f : Addr} {fd : FuncData} {k : Nat}
abbrev NTable : List Str := ["_law_draws_here", "_law_most", "_law_many", "_law_wide", "_law_kind", "_law_some", "_law_pick", "_law_told", "_law_value", "_law_one", "_law_row"]
theorem scTable : FnScope NTable ["_law_draws_here", "_law_most"] (defScope sTable) := ⟨rfl, rfl, rfl, by decide +kernel, rfl, by decide +kernel, by decide +kernel⟩
def STable : GSpec := fun rs M Kk => ∃ (D : Addr) (xs : List SD) (N most : Nat), rs = [.rf (.ref D), .pu (.int most)] ∧ M = [(D, .lst xs)] ∧ DrAt N xs ∧ N ≤ 800000 ∧ 0 < most ∧ most ≤ 8 ∧
  ∀ (T : Tab) (n : Nat) ys, IsTab T n → VB T.flatten → DrAt (N + 200) ys → Kk (.pu (tab T)) [(D, .lst ys)]
theorem small_md {n m : Nat} (h : 0 < m) : ∃ q : Nat, (1 : Int) + (n : Int) % (m : Int) = (q : Int) ∧ 0 < q ∧ q ≤ m := ⟨1 + n % m, by rw [Int.natCast_add, Int.natCast_emod]; rfl, by omega, by have := Nat.mod_lt n h; omega⟩
/-- one draw -/
theorem gnext {X : Cx} {ρ : List SD} {D : Addr} {ys : List SD} {N : Nat} {Mr : Mem} {Q : Kn} {p pos dp : Pos} (CN : Cal X.prog X.w X.K X.mg X.base k "_law_next" sNext ["_law_draws_here"] SNext) (hgd : X.A.guards = some []) (hr : Room k X.A) (hN : X.N[0]? = some (Str.ofString "_law_draws_here")) (hρ : ρ[0]? = some (.rf (.ref D)))
    (hvis : Vis X.env.scope "_law_draws_here") (hd : DrAt N ys) (hn : N ≤ 1000000) (q : ∀ (n : Nat) zs, n < 2 ^ 31 → DrAt (N + 1) zs → Q (.pu (.int n)) ((D, .lst zs) :: Mr)) (hg : Gl X "_law_next" := by rfl)
    (he : starEach [.Name "_law_draws_here" dp] X.env = (false, eval (.Name "_law_draws_here" dp) X.env) :: starEach [] X.env := by rfl) (hpl : (backTo pos (starEach [] X.env)).any (·.1) = false := by rfl) : GE X ρ ((D, .lst ys) :: Mr) (.Call (.Name "_law_next" p) [.Name "_law_draws_here" dp] [] pos) Q :=
  gcal CN hgd hr (acons (gv 0 hρ (anil ⟨[(D, .lst ys)], Mr, .refl _, D, ys, N, rfl, rfl, hd, hn, fun n zs h1 h2 => q n zs h1 h2⟩) (hN := hN) (hvis := hvis)) he) (hg := hg) (he := he) (hpl := hpl)
theorem fTable (F : Fun K "_law_table" "_law_table" sTable f fd) (b : Bl mg) (CN : Cal P w K mg base k "_law_next" sNext ["_law_draws_here"] SNext) (CO : Cal P w K mg base k "_law_order" sOrder ["_law_draws_here", "_law_size"] SOrder)
    (CL : Cal P w K mg base k "_law_nearly" sNearly ["_law_draws_here", "_law_some", "_law_kind"] SNearly) : FnG P w K mg base (k + 1) f fd ["_law_draws_here", "_law_most"] STable := by
  refine fnG F scTable (fun rs M Kk ⟨D, xs, N, most, e, _⟩ => by rw [e]; rfl) fun cdv A outer s0 H hgd hr rs M Kk hS => ?_
  obtain ⟨D, xs, N, most, rfl, rfl, dr, hN, hm1, hm8, q⟩ := hS
  refine bcons (sset 2 scTable.nd (gadd (gi ⟨1, rfl, gmod (gint b.int (gnext CN hgd hr rfl rfl (.inr (.inl rfl)) dr (by omega) fun r1 y1 h1 d1 => ⟨_, rfl, _, rfl, gv 1 rfl ⟨_, rfl, by omega, _, rfl, ?_⟩⟩))⟩)))
  obtain ⟨m, em, hm0, hmm⟩ := small_md (n := r1) hm1
  rw [em]
  refine bcons (sset 3 scTable.nd (gadd (gi ⟨1, rfl, gmod (gint b.int (gnext CN hgd hr rfl rfl (.inr (.inl rfl)) d1 (by omega) fun r2 y2 h2 d2 => ⟨_, rfl, _, rfl, gv 1 rfl ⟨_, rfl, by omega, _, rfl, ?_⟩⟩))⟩)) (hx := .inr rfl))
  obtain ⟨n, en, hn0, hnn⟩ := small_md (n := r2) hm1
  rw [en]
  refine bcons (sset 4 scTable.nd (gmod (gint b.int (gnext CN hgd hr rfl rfl (.inr (.inl rfl)) d2 (by omega) fun r3 y3 h3 d3 => ⟨_, rfl, _, rfl, gi ⟨7, rfl, by decide, ?_⟩⟩))))
  obtain ⟨kind, ek, hk7⟩ : ∃ kd : Nat, (r3 : Int) % 7 = kd ∧ kd < 7 := ⟨r3 % 7, rfl, Nat.mod_lt _ (by decide)⟩
  rw [ek]
  refine bcons (sset 5 scTable.nd (gz (gpm (gcal CO hgd hr (acons (gv 0 rfl (acons (gmul (gv 2 rfl ⟨_, rfl, gv 3 rfl ⟨_, rfl, .inl ⟨by omega, by omega⟩, anil ⟨[(D, .lst y3)], [], .refl _, D, y3, _, m * n, ?_, rfl, d3, ?_, ?_, fun l ns y4 hp d4 => ?_⟩⟩⟩)))))))) (hx := .inr rfl))
  · rw [Int.natCast_mul]
  · exact Nat.le_trans (Nat.mul_le_mul (Nat.le_trans hmm hm8) (Nat.le_trans hnn hm8)) (by decide)
  · have := Nat.mul_le_mul (Nat.le_trans hmm hm8) (Nat.le_trans hnn hm8)
    omega
  have hmn : m * n ≤ 64 := Nat.mul_le_mul (Nat.le_trans hmm hm8) (Nat.le_trans hnn hm8)
  refine ⟨[(l, .lst (pints ns)), (D, .lst y4)], List.Perm.swap .., l, ns.map .int, [(D, .lst y4)], rfl, by rw [pints_pu], ?_⟩
  have hl : ns.length = m * n := by rw [hp.length_eq]; simp
  have hb := order_small hp (by omega)
  clear hp
  refine bcons (sset 6 scTable.nd (gint b.int (gnext CN hgd hr rfl rfl (.inr (.inl rfl)) (d4.mono (show _ ≤ N + 70 by omega)) (by omega) fun pick y5 h5 d5 => ⟨_, rfl, ?_⟩)) (hx := .inr rfl))
  refine bseq (fun ρ' M' => ∃ L, ρ' = [.rf (.ref D), .pu (.int most), .pu (.int m), .pu (.int n), .pu (.int kind), intsD L, .pu (.int pick), .un, .un, .un, .un] ∧ M' = [(D, .lst y5)] ∧ L.length = m * n ∧ ∀ v ∈ L, v.natAbs ≤ 100) ?_ fun ρ' M' h => ?_
  · refine sif (teqI (gv 4 rfl ⟨_, rfl, gi ⟨0, rfl, iteB (fun _ => bone ?_) fun _ => bnil ⟨ns, rfl, rfl, hl, hb⟩⟩⟩))
    refine sset 5 scTable.nd (gz (glc (.name 8) (own := [("_law_value", 8)]) rfl scTable.nd (blkOk_by (N := NTable) (sc := defScope sTable) (by decide +kernel)) (fun _ _ _ _ _ => pg_name (i := 8) scTable.nd rfl (Or.inl rfl)) (by decide) (iglist (gv 5 rfl ⟨ns.map .int, rfl, ?_⟩)))) (hx := .inr rfl)
    refine lc_ints (L := ns) (fun v => v % (2 + (pick : Int) % 9)) (by omega) (fun v hv => ?_) fun l => ?_
    · rintro Y ⟨s', H', C, cl, fp, rfl⟩
      exact gmod (gint b.int (gv 8 rfl ⟨_, rfl, _, rfl, gadd (gi ⟨2, rfl, gmod (gint b.int (gv 6 rfl ⟨_, rfl, _, rfl, gi ⟨9, rfl, by decide, _, rfl, _, rfl, by omega, rfl, rfl⟩⟩))⟩)⟩))
    · refine ⟨l, _, _, rfl, rfl, _, rfl, rfl, by rw [List.length_map]; exact hl, map_all 100 fun v hv => ?_⟩
      have h1 := Int.emod_nonneg v (show (2 + (pick : Int) % 9) ≠ 0 by omega)
      have h2 := Int.emod_lt_of_pos v (show (0 : Int) < 2 + (pick : Int) % 9 by omega)
      omega
  obtain ⟨L, rfl, rfl, hl, hb⟩ := h
  refine bseq (fun ρ' M' => ∃ L ys, ρ' = [.rf (.ref D), .pu (.int most), .pu (.int m), .pu (.int n), .pu (.int kind), intsD L, .pu (.int pick), .un, .un, .un, .un] ∧ M' = [(D, .lst ys)] ∧ DrAt (N + 150) ys ∧ L.length = m * n ∧ VB L) ?_ fun ρ' M' h => ?_
  · have same : ∃ L' ys, ([.rf (.ref D), .pu (.int most), .pu (.int m), .pu (.int n), .pu (.int kind), intsD L, .pu (.int pick), .un, .un, .un, .un] : List SD) = [.rf (.ref D), .pu (.int most), .pu (.int m), .pu (.int n), .pu (.int kind), intsD L', .pu (.int pick), .un, .un, .un, .un] ∧ [(D, MO.lst y5)] = [(D, MO.lst ys)] ∧ DrAt (N + 150) ys ∧ L'.length = m * n ∧ VB L' :=
      ⟨L, y5, rfl, rfl, d5.mono (by omega), hl, fun v hv => Nat.le_trans (hb v hv) (by decide)⟩
    refine sif (teqI (gv 4 rfl ⟨_, rfl, gi ⟨1, rfl, iteB (fun _ => bone ?_) fun _ => bone ?_⟩⟩))
    · refine sset 5 scTable.nd (gz (glc (.name 8) (own := [("_law_value", 8)]) rfl scTable.nd (blkOk_by (N := NTable) (sc := defScope sTable) (by decide +kernel)) (fun _ _ _ _ _ => pg_name (i := 8) scTable.nd rfl (Or.inl rfl)) (by decide) (iglist (gv 5 rfl ⟨L.map .int, rfl, ?_⟩)))) (hx := .inr rfl)
      refine lc_ints (L := L) (fun v => (v - 7) * 10 ^ (17 : Int).toNat + (pick : Int) % 5) (by omega) (fun v hv => ?_) fun l => ?_
      · rintro Y ⟨s', H', C, cl, fp, rfl⟩
        refine gadd (gmul (gsub (gv 8 rfl ⟨_, rfl, gi ⟨7, rfl, _, rfl, gpow (gi ⟨10, rfl, gi ⟨17, rfl, ⟨by decide, by decide, by decide⟩, _, rfl, .inr ⟨by decide, by decide⟩, _, rfl, ?_⟩⟩)⟩⟩)))
        exact gmod (gint b.int (gv 6 rfl ⟨_, rfl, _, rfl, gi ⟨5, rfl, by decide, _, rfl, rfl, rfl⟩⟩))
      · refine ⟨l, _, _, rfl, rfl, _, y5, rfl, rfl, d5.mono (by omega), by rw [List.length_map]; exact hl, fun v hv => ?_⟩
        obtain ⟨u, hu, rfl⟩ := List.mem_map.mp hv
        have e17 : (10 : Int) ^ (17 : Int).toNat = 100000000000000000 := by decide
        rw [e17]
        have h1 := hb u hu
        have h2 := Int.emod_nonneg (pick : Int) (show (5 : Int) ≠ 0 by decide)
        have h3 := Int.emod_lt_of_pos (pick : Int) (show (0 : Int) < 5 by decide)
        omega
    · refine sif (tandP (decide ((kind : Int) = 6)) (decide ((0 : Int) < (pick : Int) % 4)) (teqI (gv 4 rfl ⟨_, rfl, gi ⟨6, rfl, rfl, rfl⟩⟩)) (tgt (gmod (gint b.int (gv 6 rfl ⟨_, rfl, _, rfl, gi ⟨4, rfl, by decide, _, rfl, gi ⟨0, rfl, rfl, rfl⟩⟩⟩)))) (iteB (fun _ => bone ?_) fun _ => bone ?_))
      · refine sset 5 scTable.nd (gz (glc (.name 9) (own := [("_law_one", 9)]) rfl scTable.nd (blkOk_by (N := NTable) (sc := defScope sTable) (by decide +kernel)) (fun _ _ _ _ _ => pg_name (i := 9) scTable.nd rfl (Or.inl rfl)) (by decide) (iglist (gv 5 rfl ⟨L.map .int, rfl, ?_⟩)))) (hx := .inr rfl)
        rw [List.length_map]
        refine ⟨by omega, fun i acc M' => ∃ L' ys, acc = pints L' ∧ L'.length = i ∧ VB L' ∧ DrAt (N + 72 + i) ys ∧ M' = [(D, .lst ys)], ⟨[], y5, rfl, rfl, fun v hv => absurd hv (List.not_mem_nil), d5.mono (by omega), rfl⟩, fun i acc M' hi _ h => ?_, fun acc M' _ h l => ?_⟩
        · obtain ⟨L', ys, rfl, hL', vL', hd, rfl⟩ := h
          rw [nth_map PyData.int 0 hi]
          refine ⟨_, rfl, fun Y hY => gts_nil (iteT ?_)⟩
          rintro Y2 ⟨s', H', C, cl, fp, rfl⟩
          obtain ⟨q4, hq1, hq2, hq3⟩ := pick4 pick
          refine gf (gmod (gint b.int (gnext CN hgd hr rfl rfl (.inr (.inl rfl)) hd (by omega) fun r z hr1 hd' => ⟨_, rfl, _, rfl, gix (glst ?_)⟩)))
          refine acons (gi (acons (gi (acons (gi (acons (gi (anil ⟨(by decide : 4 ≤ 100000), fun l4 => ?_⟩))))))))
          refine gmod (gdiv (gint b.int (gv 6 rfl ⟨_, rfl, _, rfl, gi ⟨4, rfl, ⟨by decide, by decide⟩, _, rfl, gi ⟨4, rfl, by decide, _, _, rfl, .mem List.mem_cons_self hq3, q4, rfl, by omega, [(D, .lst z)], ?_, L' ++ [(r : Int) % (q4 : Int)], z, ?_, ?_, ?_, hd'.mono (by omega), rfl⟩⟩⟩)))
          · exact List.Sublist.cons _ (List.Sublist.refl _)
          · rw [pints_app]
            rfl
          · rw [List.length_append, hL']
            rfl
          · intro v hv
            rcases List.mem_append.mp hv with h | h
            · exact vL' v h
            · rw [List.mem_singleton] at h
              have h2 := Int.emod_nonneg (r : Int) (show (q4 : Int) ≠ 0 by omega)
              have h3 := Int.emod_lt_of_pos (r : Int) (show (0 : Int) < q4 by omega)
              rw [h]
              exact Nat.le_trans (show ((r : Int) % (q4 : Int)).natAbs ≤ 90 by omega) (by decide)
        · obtain ⟨L', ys, rfl, hL', vL', hd, rfl⟩ := h
          exact ⟨l, L'.map .int, _, rfl, by rw [pints_pu], L', ys, rfl, rfl, hd.mono (by omega), by omega, vL'⟩
      · refine sif (tgt (gmod (gint b.int (gv 6 rfl ⟨_, rfl, _, rfl, gi ⟨4, rfl, by decide, _, rfl, gi ⟨1, rfl, iteB (fun _ => bone ?_) fun _ => bone ?_⟩⟩⟩))))
        · refine sset 5 scTable.nd (gz (glc (.name 8) (own := [("_law_value", 8)]) rfl scTable.nd (blkOk_by (N := NTable) (sc := defScope sTable) (by decide +kernel)) (fun _ _ _ _ _ => pg_name (i := 8) scTable.nd rfl (Or.inl rfl)) (by decide) (iglist (gv 5 rfl ⟨L.map .int, rfl, ?_⟩)))) (hx := .inr rfl)
          refine lc_ints (L := L) (fun v => (v - (pick : Int) % 29) ^ (3 : Int).toNat) (by omega) (fun v hv => ?_) fun l => ?_
          · rintro Y ⟨s', H', C, cl, fp, rfl⟩
            have h1 := hb v hv
            have h2 := Int.emod_nonneg (pick : Int) (show (29 : Int) ≠ 0 by decide)
            have h3 := Int.emod_lt_of_pos (pick : Int) (show (0 : Int) < 29 by decide)
            exact gpow (gsub (gv 8 rfl ⟨_, rfl, gmod (gint b.int (gv 6 rfl ⟨_, rfl, _, rfl, gi ⟨29, rfl, by decide, _, rfl, _, rfl, gi ⟨3, rfl, ⟨by decide, by decide, by omega⟩, rfl, rfl⟩⟩⟩))⟩))
          · refine ⟨l, _, _, rfl, rfl, _, y5, rfl, rfl, d5.mono (by omega), by rw [List.length_map]; exact hl, fun v hv => ?_⟩
            obtain ⟨u, hu, rfl⟩ := List.mem_map.mp hv
            have h1 := hb u hu
            have h2 := Int.emod_nonneg (pick : Int) (show (29 : Int) ≠ 0 by decide)
            have h3 := Int.emod_lt_of_pos (pick : Int) (show (0 : Int) < 29 by decide)
            have e3 : (3 : Int).toNat = 3 := rfl
            rw [e3, Int.natAbs_pow]
            exact Nat.le_trans (Nat.pow_le_pow_left (show (u - (pick : Int) % 29).natAbs ≤ 200 by omega) 3) (by decide)
        · refine sif (tandP (decide ((pick : Int) % 4 = 1)) (decide ((1 : Int) < (kind : Int))) (teqI (gmod (gint b.int (gv 6 rfl ⟨_, rfl, _, rfl, gi ⟨4, rfl, by decide, _, rfl, gi ⟨1, rfl, rfl, rfl⟩⟩⟩)))) (tgt (gv 4 rfl ⟨_, rfl, gi ⟨1, rfl, rfl, rfl⟩⟩)) (iteB (fun _ => bone ?_) fun _ => bnil same))
          refine sset 5 scTable.nd (gz (glc (.name 8) (own := [("_law_value", 8)]) rfl scTable.nd (blkOk_by (N := NTable) (sc := defScope sTable) (by decide +kernel)) (fun _ _ _ _ _ => pg_name (i := 8) scTable.nd rfl (Or.inl rfl)) (by decide) (iglist (gv 5 rfl ⟨L.map .int, rfl, ?_⟩)))) (hx := .inr rfl)
          refine lc_ints (L := L) (fun v => (v + (pick : Int) / 4 % 2) / 2) (by omega) (fun v hv => ?_) fun l => ?_
          · rintro Y ⟨s', H', C, cl, fp, rfl⟩
            refine gdiv (gadd (gv 8 rfl ⟨_, rfl, gmod (gdiv (gint b.int (gv 6 rfl ⟨_, rfl, _, rfl, gi ⟨4, rfl, ⟨by decide, by decide⟩, _, rfl, gi ⟨2, rfl, by decide, _, rfl, _, rfl, gi ⟨2, rfl, ⟨by decide, by decide⟩, rfl, rfl⟩⟩⟩⟩)))⟩))
          · refine ⟨l, _, _, rfl, rfl, _, y5, rfl, rfl, d5.mono (by omega), by rw [List.length_map]; exact hl, fun v hv => ?_⟩
            obtain ⟨u, hu, rfl⟩ := List.mem_map.mp hv
            have h1 := hb u hu
            have h2 := Int.emod_nonneg ((pick : Int) / 4) (show (2 : Int) ≠ 0 by decide)
            have h3 := Int.emod_lt_of_pos ((pick : Int) / 4) (show (0 : Int) < 2 by decide)
            exact Nat.le_trans (show ((u + (pick : Int) / 4 % 2) / 2).natAbs ≤ 200 by omega) (by decide)
  obtain ⟨L, ys, rfl, rfl, hd, hl, hb⟩ := h
  have hm8' : m ≤ 8 := Nat.le_trans hmm hm8
  have hn8' : n ≤ 8 := Nat.le_trans hnn hm8
  have t := rows_is hm0 hm8' hn0 hn8' hl
  have tl : (rowsOf m n L).length = m := by simp [rowsOf]
  have vt : VB (rowsOf m n L).flatten := rows_vb hb
  have td : ∀ (R : Tab), (R.map fun r => SD.pu (rowD r)) = (R.map rowD).map SD.pu := fun R => by
    rw [List.map_map]
    rfl
  refine bcons (ssetlc 7 (.name 10) (own := [("_law_row", 10)]) rfl scTable.nd rfl rfl (sw_true rfl rfl rfl (by decide +kernel)) (blkOk_by (N := NTable) (sc := defScope sTable) (by decide +kernel)) (fun _ _ _ _ _ => pg_name (i := 10) scTable.nd rfl (Or.inl rfl)) (by decide) (igr1 b.range (gv 2 rfl ⟨m, rfl, by omega, by omega, ?_⟩)))
  rw [Int.toNat_natCast]
  refine lc_map (fun i => .pu (rowD ((L.drop (i * n)).take n))) (by omega) (fun i hi => ?_) fun l => ?_
  · refine ⟨_, rfl, ?_⟩
    rintro Y ⟨s', H', C, cl, fp, rfl⟩
    have hin : i * n + n ≤ L.length := by
      have : (i + 1) * n ≤ m * n := Nat.mul_le_mul_right n hi
      rw [Nat.succ_mul] at this
      omega
    refine gz (gsl (gv 5 rfl (show GO _ _ _ _ (some _) from gmul (gv 10 rfl ⟨_, rfl, gv 3 rfl ⟨_, rfl, .inl ⟨by omega, by omega⟩, _, rfl, ?_⟩⟩))))
    refine (show GO _ _ _ _ (some _) from gadd (gmul (gv 10 rfl ⟨_, rfl, gv 3 rfl ⟨_, rfl, .inl ⟨by omega, by omega⟩, _, rfl, gv 3 rfl ⟨_, rfl, _, rfl, pints L, ?_, fun l2 => ⟨l2, ((L.drop (i * n)).take n).map .int, _, rfl, ?_, rfl, rfl⟩⟩⟩⟩)))
    · rw [pints_pu]
      exact .pu
    · have e1 : (i : Int) * (n : Int) = ((i * n : Nat) : Int) := by rw [Int.natCast_mul]
      have e2 : (i : Int) * (n : Int) + (n : Int) = ((i * n + n : Nat) : Int) := by rw [Int.natCast_add, Int.natCast_mul]
      rw [e2, e1, cutL_nat (by omega) (by rw [pints_len]; exact hin), Nat.add_sub_cancel_left, pints_cut, pints_pu]
  have told : (List.range m).map (fun i => SD.pu (rowD ((L.drop (i * n)).take n))) = ((rowsOf m n L).map rowD).map SD.pu := by
    unfold rowsOf
    rw [List.map_map, List.map_map]
    rfl
  rw [told]
  clear told
  generalize rowsOf m n L = T at t tl vt
  clear hb
  refine bcons (sif (teqI (gv 4 rfl ⟨_, rfl, gi ⟨2, rfl, iteB (fun _ => bone (sret ?_)) fun _ => bnil ?_⟩⟩)))
  · refine gz (glc (.name 10) (own := [("_law_row", 10)]) rfl scTable.nd (blkOk_by (N := NTable) (sc := defScope sTable) (by decide +kernel)) (fun _ _ _ _ _ => pg_name (i := 10) scTable.nd rfl (Or.inl rfl)) (by decide) (iglist (gz (gv 7 rfl ⟨l, T.map rowD, [(D, .lst ys)], rfl, rfl, _, rfl, ?_⟩))))
    rw [List.length_map]
    refine ⟨by omega, fun i acc M' => ∃ R : Tab, acc = (R.map fun r => SD.pu (rowD r)) ∧ R.length = i ∧ (∀ r ∈ R, r.length = n ∧ VB r) ∧ M' = [(D, .lst ys)], ⟨[], rfl, rfl, fun r hr => absurd hr (List.not_mem_nil), rfl⟩, fun i acc M' hi _ h => ?_, fun acc M' _ h l' => ?_⟩
    · obtain ⟨R, rfl, hR, hr1, rfl⟩ := h
      have hri := t.row hi
      have hrv : VB T[i] := fun v hv => vt v (List.mem_flatten.mpr ⟨T[i], List.getElem_mem hi, hv⟩)
      rw [nth_map rowD [] hi, G.getD_at hi]
      generalize T[i] = r at hri hrv
      refine ⟨_, rfl, fun Y hY => gts_nil (iteT ?_)⟩
      rintro Y2 ⟨s', H', C, cl, fp, rfl⟩
      refine gz (gsorted b.sorted (gv 10 rfl ⟨r, ?_, fun l2 ns' hp hs => ⟨l2, ns'.map .int, _, rfl, ?_, R ++ [ns'], ?_, ?_, ?_, rfl⟩⟩))
      · rw [pints_pu]
        exact .pu
      · rw [pints_pu]
      · rw [List.map_append]
        rfl
      · rw [List.length_append, hR]
        rfl
      · intro x hx
        rcases List.mem_append.mp hx with h | h
        · exact hr1 x h
        · rw [List.mem_singleton] at h
          rw [h]
          exact ⟨by rw [hp.length_eq, hri], fun v hv => hrv v (hp.mem_iff.mp hv)⟩
    · obtain ⟨R, rfl, hR, hr1, rfl⟩ := h
      refine ⟨l', R.map rowD, _, rfl, by rw [td], q R n ys ⟨by omega, by omega, hn0, hn8', fun r hr => (hr1 r hr).1⟩ (fun v hv => ?_) (hd.mono (by omega))⟩
      obtain ⟨r, hr, hv⟩ := List.mem_flatten.mp hv
      exact (hr1 r hr).2 v hv
  refine bcons (sif (GT.mono (Q1 := fun k M' => k = (decide ((2 : Int) < kind) && decide ((kind : Int) < 6)) ∧ M' = [(l, .lst ((T.map rowD).map SD.pu)), (D, .lst ys)]) (tltlt (gi ⟨2, rfl, gv 4 rfl ⟨_, rfl, ?_⟩⟩)) fun k M' ⟨e1, e2⟩ => ?_))
  · refine iteB (fun h => gi ⟨6, rfl, ?_, rfl⟩) fun h => ⟨?_, rfl⟩
    · have h : decide ((2 : Int) < kind) = true := h
      rw [h, Bool.true_and]
    · have h : decide ((2 : Int) < kind) = false := h
      rw [h, Bool.false_and]
  · subst e2
    refine iteB (fun h => bone (sret ?_)) fun _ => bnil ?_
    · rw [e1, Bool.and_eq_true] at h
      have h1 := of_decide_eq_true h.1
      have h2 := of_decide_eq_true h.2
      exact gcal CL hgd hr (acons (gv 0 rfl (acons (gz (gv 7 rfl ⟨l, T.map rowD, [(D, .lst ys)], rfl, rfl, acons (gv 4 rfl (anil ⟨[(D, .lst ys)], [], .refl _, D, ys, N + 150, T, n, kind, rfl, rfl, hd, by omega, t, vt, by omega, by omega, fun T' ys' t' _ vb' hd' => q T' n ys' t' vb' (hd'.mono (by omega))⟩))⟩)))))
    · exact bone (sret (gz (gv 7 rfl ⟨l, T.map rowD, [(D, .lst ys)], rfl, rfl, q T n ys t vt (hd.mono (by omega))⟩)))
end
end K01

namespace K01
open PySem PySem.Spec PyProof.Rows L2 G
section
variable {P : Program} {w : World} {K : PySem.W.Frag} {mg : Str → Option Value} {base : Heap} {f : Addr} {fd : FuncData} {k : Nat}
theorem scDraws : FnScope ["_law_cell"] ["_law_cell"] (defScope sDraws) := ⟨rfl, rfl, rfl, by decide +kernel, rfl, by decide +kernel, by decide +kernel⟩
def SDraws : GSpec := fun rs M Kk => ∃ c : Int, rs = [.pu (.int c)] ∧ M = [] ∧ ∀ l xs, DrAt 0 xs → Kk (.rf (.ref l)) [(l, .lst xs)]
theorem fDraws (F : Fun K "_law_draws" "_law_draws" sDraws f fd) (b : Bl mg) : FnG P w K mg base (k + 1) f fd ["_law_cell"] SDraws := by
  refine fnG F scDraws (fun rs M Kk ⟨c, e, _⟩ => by rw [e]; rfl) fun cdv A outer s0 H hgd hr rs M Kk hS => ?_
  obtain ⟨c, rfl, rfl, q⟩ := hS
  have p1 : CPow 10 60 := ⟨by decide, by decide, by decide⟩
  have p2 : CPowW ((10 : Int) ^ (60 : Int).toNat) 60 := ⟨by decide, by decide +kernel⟩
  have p3 : CPowW (((10 : Int) ^ (60 : Int).toNat) ^ (60 : Int).toNat) 4 := ⟨by decide, by decide +kernel⟩
  have pp : (0 : Int) < (((10 : Int) ^ (60 : Int).toNat) ^ (60 : Int).toNat) ^ (4 : Int).toNat := Int.pow_pos (Int.pow_pos (Int.pow_pos (by decide)))
  refine bone (sret (glst (acons (gmod (gint b.int (gv 0 rfl ⟨c, rfl, _, rfl, gpowW (gpowW (gpow (gi ⟨10, rfl, gi ⟨60, rfl, p1, _, rfl, gi ⟨60, rfl, p2, _, rfl, gi ⟨4, rfl, p3, _, rfl, pp, ?_⟩⟩⟩⟩)))⟩))))))
  exact acons (gi (acons (gge (gv 0 rfl ⟨c, rfl, gpow (gi ⟨10, rfl, gi ⟨18, rfl, ⟨by decide, by decide, by decide⟩, _, rfl, anil ⟨le3, fun l => q l _ ⟨_, 0, _, rfl, Nat.le_refl _⟩⟩⟩⟩)⟩))))
/-! ### the law's own search -/
abbrev NWay : List Str := ["_law_net", "_law_a_key", "_law_told", "_law_x", "_law_y"]
theorem scWay : FnScope NWay ["_law_net", "_law_a_key"] (defScope sWay) := ⟨rfl, rfl, rfl, by decide +kernel, rfl, by decide +kernel, by decide +kernel⟩
def WyAt (T : Tab) (n : Nat) (key : Int) (fu : Nat) (ρ : List SD) (M : Mem) : Prop := ∃ (i c : Nat) (L : List (Nat × Nat)) (l : Addr),
  ρ = [.pu (tab T), .pu (.int key), .rf (.ref l), .pu (.int i), .pu (.int ((c : Int) - 1))] ∧ M = [(l, .lst (L.map pld))] ∧ i ≤ T.length ∧ c ≤ n ∧ (T.length - i) + c ≤ fu ∧ L.length + fu = T.length + n ∧ L ++ (go T key fu i c).1 = (run T n key).1 ∧ (go T key fu i c).2 = (run T n key).2
def WyEnd (T : Tab) (n : Nat) (key : Int) (ρ : List SD) (M : Mem) : Prop := ∃ (l : Addr), ρ = [.pu (tab T), .pu (.int key), .rf (.ref l), .pu (.int (run T n key).2.1), .pu (.int (run T n key).2.2)] ∧ M = [(l, .lst ((run T n key).1.map pld))]
theorem fWay (F : Fun K "_law_way" "_law_way" sWay f fd) (b : Bl mg) : FnG P w K mg base (k + 1) f fd ["_law_net", "_law_a_key"] SWalk := by
  refine fnG F scWay (fun rs M Kk ⟨T, n, key, t, e, _⟩ => by rw [e]; rfl) fun cdv A outer s0 H hgd hr rs M Kk hS => ?_
  obtain ⟨T, n, key, t, rfl, rfl, q⟩ := hS
  have give : ∀ ρ' M', WyEnd T n key ρ' M' → ∀ {p1 p2 p3 p4 p5 : Pos} {z1 z2 : Nat}, GE (bodyX P w K mg base NWay "_law_way" sWay f cdv A outer s0 H) ρ' M' (.Tuple [.Name "_law_told" p1, .Tuple [.Name "_law_x" p2, .Name "_law_y" p3] z1 p4] z2 p5) (bodyD Kk).rt := by
    rintro ρ' M' ⟨l, rfl, rfl⟩ p1 p2 p3 p4 p5 z1 z2
    rw [pld_map]
    exact gtup (acons (gz (gv 2 rfl ⟨l, (run T n key).1.map plD, [], rfl, rfl, acons (gtup (acons (gv 3 rfl (acons (gv 4 rfl (anil ⟨_, rfl, le2, anil ⟨[.list ((run T n key).1.map plD), enD (run T n key).2], rfl, le2, q _⟩⟩))))))⟩)))
  refine bcons (sset 2 scWay.nd (glst (anil ⟨Nat.zero_le _, fun l => ?_⟩)))
  refine bcons (sset 3 scWay.nd (gi ?_))
  refine bcons (sset 4 scWay.nd (gsub (glen b.len (gix (gv 0 rfl (gi ⟨(0 : Nat), _, rfl, tab_ix t.pos, _, row_len, _, rfl, gi ⟨1, rfl, ?_⟩⟩))))))
  rw [t.row t.pos]
  refine bseq (WyEnd T n key) (swhile PassesOwn.never (WyAt T n key) (T.length + n) ⟨0, n, [], l, rfl, rfl, Nat.zero_le _, Nat.le_refl _, by omega, by simp, rfl, rfl⟩ fun fu ρ' M' h => ?_) fun ρ' M' h => bone (sret (give ρ' M' h))
  obtain ⟨i, c, L, l, rfl, rfl, hi, hc, hf, hL, e1, e2⟩ := h
  refine tand (tlt (gv 3 rfl ⟨_, rfl, glen b.len (gv 0 rfl ⟨_, tab_len, _, rfl, ?_⟩)⟩))
  have done : ¬ (i < T.length ∧ 0 < c) → WyEnd T n key [.pu (tab T), .pu (.int key), .rf (.ref l), .pu (.int i), .pu (.int ((c : Int) - 1))] [(l, .lst (L.map pld))] := fun hn => by
    have g : go T key fu i c = ([], ((i : Int), (c : Int) - 1)) := by
      cases fu with
      | zero => rfl
      | succ fu =>
        unfold go
        rw [if_neg hn]
    rw [g] at e1 e2
    simp only [List.append_nil] at e1
    exact ⟨l, by rw [← e2], by rw [← e1]⟩
  refine iteB (fun h => ?_) fun h => done ?_
  · refine tge (gv 4 rfl ⟨_, rfl, gi ⟨0, rfl, iteB (fun h2 => ?_) fun h2 => done ?_⟩⟩)
    · have h1 : i < T.length := by simpa using h
      have h3 : 0 < c := by
        have := of_decide_eq_true h2
        omega
      obtain ⟨fu, rfl⟩ : ∃ f', fu = f' + 1 := ⟨fu - 1, by omega⟩
      have hj : c - 1 < n := by omega
      have hcc : (c : Int) - 1 = ((c - 1 : Nat) : Int) := by omega
      have g : go T key (fu + 1) i c = if val T i (c - 1) = key then ([(i, c - 1)], ((i : Int), (c : Int) - 1)) else if val T i (c - 1) < key then ((i, c - 1) :: (go T key fu (i + 1) c).1, (go T key fu (i + 1) c).2) else ((i, c - 1) :: (go T key fu i (c - 1)).1, (go T key fu i (c - 1)).2) := by
        show (if i < T.length ∧ 0 < c then _ else _) = _
        rw [if_pos ⟨h1, h3⟩]
      rw [g] at e1 e2
      have h8 := t.le
      have h9 := t.nle
      rw [hcc] at e1 e2 ⊢
      refine bcons (sexpr (gapp (gv 2 rfl ⟨l, _, rfl, List.mem_cons_self, gtup (acons (gv 3 rfl (acons (gv 4 rfl (anil ⟨[.int i, .int ((c - 1 : Nat) : Int)], rfl, le2, L.map pld, [], [], rfl, ?_, ?_⟩)))))⟩)))
      · rw [List.length_map]
        omega
      refine bcons (sif (teqI (gix (gix (gv 0 rfl (gv 3 rfl ⟨(i : Nat), _, rfl, tab_ix h1, gv 4 rfl ⟨((c - 1 : Nat) : Int), _, rfl, val_ix t h1 hj, _, rfl, gv 1 rfl ⟨_, rfl, iteB (fun hv => bone (sret (give _ _ ?_))) fun hv => bnil (bone (sif (tlt (gix (gix (gv 0 rfl (gv 3 rfl ⟨(i : Nat), _, rfl, tab_ix h1, gv 4 rfl ⟨((c - 1 : Nat) : Int), _, rfl, val_ix t h1 hj, _, rfl, gv 1 rfl ⟨_, rfl, iteB (fun hv2 => bone ?_) fun hv2 => bone ?_⟩⟩⟩)))))))⟩⟩⟩))))))
      · rw [if_pos (of_decide_eq_true hv)] at e1 e2
        refine ⟨l, ?_, ?_⟩
        · rw [← e2]
        · rw [← e1, List.map_append]
          rfl
      · have hv := of_decide_eq_false hv
        rw [if_neg hv, if_pos (of_decide_eq_true hv2)] at e1 e2
        refine sset 3 scWay.nd (gadd (gv 3 rfl ⟨_, rfl, gi ⟨1, rfl, fu, Nat.lt_succ_self fu, i + 1, c, L ++ [(i, c - 1)], l, ?_, ?_, by omega, hc, by omega, ?_, ?_, e2⟩⟩))
        · rw [hcc]
          rfl
        · rw [List.map_append]
          rfl
        · rw [List.length_append, List.length_singleton]
          omega
        · rw [← e1, List.append_assoc]
          rfl
      · have hv := of_decide_eq_false hv
        rw [if_neg hv, if_neg (of_decide_eq_false hv2)] at e1 e2
        refine sset 4 scWay.nd (gsub (gv 4 rfl ⟨_, rfl, gi ⟨1, rfl, fu, Nat.lt_succ_self fu, i, c - 1, L ++ [(i, c - 1)], l, rfl, ?_, hi, by omega, by omega, ?_, ?_, e2⟩⟩))
        · rw [List.map_append]
          rfl
        · rw [List.length_append, List.length_singleton]
          omega
        · rw [← e1, List.append_assoc]
          rfl
    · have := of_decide_eq_false h2
      omega
  · have := of_decide_eq_false h
    omega
end
end K01

/-! ### an exception of the program's own: super().__init__("..") and one field -/
namespace PySem
namespace IvX
open PySem.W PySem.Calls PyProof.Rows
/-- what the written part says of the class and of its __init__ -/
structure IvT (prog : Program) (K : Frag) (mg : Str → Option Value) (x field : Str) (C : Addr) : Prop where
  gC : mg x = some (.ref C)
  kC : keepIn K (.ref C) = true
  gS : mg "super" = none
  exC : subIn K (.ref C) (.type "BaseException") = some true
  tyC : typeIn K (.ref C) = some (.type "type")
  base : ∃ (B newId initId : String) (bmB : List Value), ExcBaseFacts B newId initId bmB ∧ StoreFacts B bmB "object.__setattr__" "object" ∧ KxsFacts B initId ∧ excInitIn K C bmB newId = true ∧ excOver K C bmB = true ∧
    (∃ cd, clsIn K C = some cd ∧ cd.mro = .ref C :: bmB ∧ bmB.contains (.type B) = true ∧ subIn K (.ref C) (.type B) = some true) ∧ alongIn K "__init__" bmB = some (some (.builtin initId))
  sa : findIn K (.ref C) "__setattr__" = some (some (.builtin "object.__setattr__"))
  tk : takerIn K C field = some none
  hd : hasDictIn K C = true
  op : nsIn K cStatics "thirdparty.any" = some none
  nsup : (prog.main.scope.names.lookup ("super" : Str)).isSome = false
  ini : ∃ (fI cc cda : Addr) (oc : Value) (od : Option Addr) (doc pm dV kV : Value) (an : Option Addr) (ct ccl : Value) (osl : Array (Option Value)) (cld : Option Addr) (csl : Array (Option Value)) (qual par : Str) (params : Arguments) (sc : Scope) (m : Str) (j : Nat) (p0 p1 p2 p3 p4 p5 q1 q2 q3 q4 : Pos) (ar : Arg)
    (cl3 : Value) (cdd : Option Addr) (ccs : Array (Option Value)) (vs : Array Value) (file : Str) (tf : Tok),
    findIn K (.ref C) "__init__" = some (some (.ref fI)) ∧ typeIn K (.ref fI) = some (.type "function") ∧
    K.lookup fI = some ⟨oc, od, .func (ksFn "__init__" qual params [.Expr (.Call (.Attribute (.Call (.Name "super" p0) [] [] p1) "__init__" p2) [.Constant (.str m) j p3] [] p4) p5, .Assign [.Attribute (.Name "self" q1) field q2] (.Name par q3) q4] sc dV kV doc pm an (.ref cda) ct cc), osl⟩ ∧
    codeIn K (.ref cda) qual = true ∧ K.lookup cc = some ⟨ccl, cld, .cell (some (.ref C)), csl⟩ ∧
    K.lookup cda = some ⟨cl3, cdd, .fields vs, ccs⟩ ∧ vs[2]? = some (.str file tf) ∧ (prog.main.file == file) = true ∧
    (params.posonlyargs ++ params.args).head? = some ar ∧ ar.arg = "self" ∧
    (∀ (s : Shared) (a v : Value), BindsTo s (ksFn "__init__" qual params [.Expr (.Call (.Attribute (.Call (.Name "super" p0) [] [] p1) "__init__" p2) [.Constant (.str m) j p3] [] p4) p5, .Assign [.Attribute (.Name "self" q1) field q2] (.Name par q3) q4] sc dV kV doc pm an (.ref cda) ct cc) ⟨[a, v], []⟩ [("self", a), (par, v)]) ∧
    sc.kind = .function ∧ sc.isCoroutine = false ∧ sc.isGenerator = false ∧ (∀ y ∈ sc.names, y.2 ≠ .cell) ∧ sc.names.lookup ("self" : Str) = some .local ∧ sc.names.lookup par = some .local ∧ sc.names.lookup ("super" : Str) = some .globalImplicit ∧ sc.names.lookup ("__class__" : Str) = some .free ∧ ("self" : Str) ≠ par ∧ (par == ("__debug__" : Str)) = false ∧ (p2.endLine == p4.line) = true
theorem eval_super (m : Str) (j : Nat) (p0 p1 p2 p3 p4 : Pos) (env : Env) (h : (p2.endLine == p4.line) = true) : eval (.Call (.Attribute (.Call (.Name "super" p0) [] [] p1) "__init__" p2) [.Constant (.str m) j p3] [] p4) env = (do
          let ov ← attributeBase (.Call (.Name "super" p0) [] [] p1) "__init__" env (eval (.Call (.Name "super" p0) [] [] p1) env)
          standAt p2.atName
          let x ← holding [ov] (getMethod ov "__init__" (do
            let a ← importBound (.Call (.Name "super" p0) [] [] p1) env
            pure (a.getD true)))
          callWith p4 x.1 x.2 (backTo p4 (starEach [.Constant (.str m) j p3] env)) []) := by
  have e : methodCallPos true (.Call (.Name "super" p0) [] [] p1) env p2 p4 = pure p4 := by
    unfold methodCallPos
    simp [h]
  have z : ∀ ov, methodCall (.Call (.Name "super" p0) [] [] p1) "__init__" p2 p4 env ov 1 (backTo p4 (starEach [.Constant (.str m) j p3] env)) (backToKw p4 (keywordEach [] env)) = (do
          let x ← holding [ov] (getMethod ov "__init__" (do
            let a ← importBound (.Call (.Name "super" p0) [] [] p1) env
            pure (a.getD true)))
          callWith p4 x.1 x.2 (backTo p4 (starEach [.Constant (.str m) j p3] env)) []) := by
    intro ov
    unfold methodCall
    have f : methodCallForm 1 (backTo p4 (starEach [.Constant (.str m) j p3] env)) (backToKw p4 (keywordEach [] env)) = true := rfl
    rw [f, e]
    rfl
  show (do
    let ov ← attributeBase (.Call (.Name "super" p0) [] [] p1) "__init__" env (eval (.Call (.Name "super" p0) [] [] p1) env)
    standAt p2.atName
    methodCall (.Call (.Name "super" p0) [] [] p1) "__init__" p2 p4 env ov 1 (backTo p4 (starEach [.Constant (.str m) j p3] env)) (backToKw p4 (keywordEach [] env))) = _
  simp only [z]
theorem one_size (v : Value) : [v].length ≤ sizeLine := by
  rw [sizeLine_eq]
  exact (by decide : 1 ≤ 16777216)
/-- what __init__ leaves of a fresh exception at x -/
structure InitEnd (h h' : Heap) (x C dx t1 : Addr) (field : Str) (v : Value) : Prop where
  keep : ∀ b o, b ≠ x → h.get? b = some o → h'.get? b = some o
  obj : h'.get? x = some (excObj C t1 (some dx) .none)
  dbig : h.objs.size ≤ dx
  dne : dx ≠ x
  ns : h'.Ns1 dx (fun y => if y = field then some v else none)
/-- a made exception -/
structure IvMade (h h' : Heap) (e C d : Addr) (field : Str) (v : Value) : Prop where
  keep : ∀ b o, h.get? b = some o → h'.get? b = some o
  new : h.objs.size ≤ e
  obj : ∃ oe vs, h'.get? e = some oe ∧ oe.cls = .ref C ∧ oe.dict = some d ∧ oe.data = .fields vs ∧ vs[1]? = some .none
  dbig : h.objs.size ≤ d
  dne : d ≠ e
  ns : h'.Ns1 d (fun y => if y = field then some v else none)
theorem dictOf_ns {h : Heap} {dx : Addr} {field : Str} {hsh : Int} {t : Tok} {v : Value} {n : Nat} (e : h.get? dx = some (dictOf [⟨hsh, .str field t, v⟩] n)) : h.Ns1 dx (fun y => if y = field then some v else none) := by
  refine ⟨_, _, _, e, rfl, ?_, ?_, ?_⟩
  · intro d hd
    have hd : d ∈ [(⟨hsh, .str field t, v⟩ : DictEntry)] := by simpa using hd
    rw [List.mem_singleton.mp hd]
    exact ⟨field, t, rfl⟩
  · unfold UniqKeys
    simp
  · intro y
    show ((List.toArray [(⟨hsh, .str field t, v⟩ : DictEntry)]).find? fun e => e.key.isStr y).map (·.val) = _
    rw [List.find?_toArray]
    by_cases q : y = field
    · subst q
      show _ = if y = y then some v else none
      rw [if_pos rfl, List.find?_cons_of_pos (by show (y == y) = true; simp)]
      rfl
    · show _ = if y = field then some v else none
      rw [if_neg q, List.find?_cons_of_neg (by show ¬ (field == y) = true; simpa using fun e => q e.symm)]
      rfl
theorem put_one (field : Str) (hsh : Int) (t : Tok) (v : Value) : putL field hsh (.str field t) v [] = [⟨hsh, .str field t, v⟩] := rfl
section
variable {prog : Program} {w : World} {A : Around} {E : Value → Shared → Prop} {R : Result → Shared → Prop} {s : Shared} {K : Frag} {mg : Str → Option Value} {x field : Str} {C : Addr}
theorem iv_init (T : IvT prog K mg x field C) {fI : Addr} (iC : findIn K (.ref C) "__init__" = some (some (.ref fI))) {mb : Str → Option Value} {e t0 : Addr} {v : Value} (X : K.In s.heap) (hlim : s.heap.NoLimit) (hG : s.heap.Ns mainGlobals mg) (hB : s.heap.Ns builtinsNs mb) (hbb : ∀ x : Str, x ≠ "__name__" → mb x = bootBuiltins x)
    (hx : s.heap.get? e = some (excObj C t0 none .none)) (hnx : K.lookup e = none) (hroom : A.depth < recursionLimit)
    (hq : ∀ h' tk dx t1, InitEnd s.heap h' e C dx t1 field v → R (.ok (.ret .none)) { s with heap := h', toks := tk }) :
    codeAny (model prog w) A (.call (.ref fI) ⟨[.ref e, v], []⟩) R s := by
  obtain ⟨B, newId, initId, bmB, EB, SF, KX, xI, xO, ⟨cd, hcd, hmro, hBm, hsB⟩, hal⟩ := T.base
  obtain ⟨fI', cc, cda, oc, od, doc, pm, dV, kV, an, ct, ccl, osl, cld, csl, qual, par, params, sc, m, j, p0, p1, p2, p3, p4, p5, q1, q2, q3, q4, ar, cl3, cdd, ccs, vs, file, tf, iC', tI, lk, hci, lcc, lcd, hvs, hfile, har, hara, hbind, skind, sco, sgen, scell, sself, spar, ssup, scls, hne, hpd, hline⟩ := T.ini
  obtain rfl : fI' = fI := by
    have z := iC'.symm.trans iC
    cases z
    rfl
  obtain ⟨hp, g, dr, tk, os⟩ := s
  have X : K.In hp := X
  have hx : hp.get? e = some (excObj C t0 none .none) := hx
  refine codeAny_call_function hroom (X _ _ lk) rfl sco sgen rfl (codeRec_of X hci) (hbind _ _ _ _ _ _ _ ?_)
  refine wpAny_newFunctionEnv scell ?_ (fun h1 ns1 sb => ?_) skind
  · intro y hy
    rcases List.mem_cons.mp hy with z | hy
    · rw [z]; exact sself
    · rw [List.mem_singleton.mp hy]; exact spar
  have k1 : ∀ b o, hp.get? b = some o → h1.get? b = some o := fun b o e => by
    have lt := Heap.lt_size e
    rw [sb.2 b (Nat.ne_of_lt lt)]
    exact Heap.get?_push_of_some _ e
  have X1 : K.In h1 := X.keeps k1
  have hx1 := k1 _ _ hx
  refine ⟨hlim.keeps k1, ks_codeAny_funcAt ?_⟩
  have hcls1 : ∃ o, h1.get? C = some o ∧ o.data = .cls cd := by
    unfold clsIn at hcd
    cases e : K.lookup C with
    | none => rw [e] at hcd; cases hcd
    | some o =>
      rw [e] at hcd
      exact ⟨o, X1 _ _ e, by revert hcd; obtain ⟨a, b, c, d⟩ := o; cases c <;> simp⟩
  obtain ⟨oC, hoC, hoCd⟩ := hcls1
  have sub1 : ∀ h, K.In h → Looks (model prog w) h (isSubtype (.ref C) (.ref C)) true := fun h Xh => looks_mroIn Xh (by unfold mroIn; rw [hcd]; simp [hmro])
  have subB : ∀ h, K.In h → Looks (model prog w) h (isSubtype (.ref C) (.type B)) true := fun h Xh => looks_mroIn Xh (by
    unfold mroIn
    rw [hcd]
    have hBm : Value.type B ∈ bmB := by simpa using hBm
    simp [hmro, hBm])
  have en : ∀ {h : Heap}, (∀ b o, h1.get? b = some o → h.get? b = some o) → h.Ns hp.objs.size (fun x => List.lookup x [(("self" : Str), Value.ref e), (par, v)].reverse) := fun k => ns1.keeps k
  show wpAt _ _ (Code.func _ (ksEnv qual sc hp.objs.size fI' (.ref cda) cc)) (execs _ (ksEnv qual sc hp.objs.size fI' (.ref cda) cc)) _ _ _
  refine ks_wpAt_execs_cons (ks_wpAt_Expr_any (ks_wpAt_MethodCall (ks_wpAt_super_base ssup scls rfl rfl (X1 _ _ lk) rfl har rfl (X1 _ _ lcd) rfl hvs hfile T.nsup ?_) (eval_super _ _ _ _ _ _ _ _ hline)) (by unfold interactive; rw [skind]; rfl))
  refine ks_loadName_global skind ssup (Calls.loadGlobal_builtin (mg := mg) (mb := mb) (v := .type "super") (hG.keeps k1) T.gS (hB.keeps k1) (by rw [hbb _ (by decide)]; rfl) ⟨rfl, ?_⟩)
  refine wpAny_loadName_free (c := cc) (v := .ref C) skind scls rfl ⟨_, X1 _ _ lcc, rfl⟩ ?_
  rw [hara]
  refine wpAny_loadName_local (v := .ref e) skind sself ns1 ?_ ?_
  · show List.lookup ("self" : Str) [(par, v), (("self" : Str), Value.ref e)] = some (.ref e)
    have z : (("self" : Str) == par) = false := by simpa using hne
    simp [List.lookup, z]
  refine ks_wpAny_isType_cls hoC hoCd ⟨rfl, ?_⟩
  refine ks_wpAny_call_super hoC hoCd hx1 rfl (fun c z => by cases z) (sub1 _ X1) fun h2 so k2 => ?_
  have sz1 : h1.objs.size = hp.objs.size + 1 := by rw [sb.1, Heap.size_push]
  obtain ⟨h0, h00, h0g, h0s⟩ : ∃ h0 : Heap, (∀ b o, h0.get? b = some o → hp.get? b = some o ∧ b ≠ e) ∧ (∀ b o, b ≠ e → hp.get? b = some o → h0.get? b = some o) ∧ h0.objs.size = hp.objs.size := by
    refine ⟨L2.hidT hp (fun b => if b = e then some (.lst []) else none), fun b o q => ?_, fun b o hb q => L2.hidT_get q (if_neg hb), L2.hidT_size _ _⟩
    obtain ⟨q1, q2⟩ := L2.of_hidT q
    refine ⟨q1, fun z => ?_⟩
    rw [z] at q2
    exact nomatch ((if_pos rfl).symm.trans q2)
  have X0 : K.In h0 := fun a o q => h0g a o (fun z => by rw [z, hnx] at q; cases q) (X a o q)
  have lte : e < hp.objs.size := Heap.lt_size hx
  have big : ∀ {y : Addr}, hp.objs.size ≤ y → h0.get? y = none := fun {y} hy => by
    cases z : h0.get? y with
    | none => rfl
    | some o => exact absurd (Heap.lt_size (h00 _ _ z).1) (Nat.not_lt.mpr hy)
  have e0 : h0.get? e = none := by
    cases z : h0.get? e with
    | none => rfl
    | some o => exact absurd rfl (h00 _ _ z).2
  have F2 : Fr h0 hp.objs.size h2 (fun x => List.lookup x [(("self" : Str), Value.ref e), (par, v)].reverse) := ⟨en k2, fun b o q => k2 _ _ (k1 _ _ (h00 _ _ q).1), Nat.le_of_eq h0s⟩
  have N2 : News h0 hp.objs.size h2 [(h1.objs.size, ks_superObj C e C), (e, excObj C t0 none .none)] := by
    intro p hp'
    rcases List.mem_cons.mp hp' with z | hp'
    · rw [z]
      exact ⟨so, by show h1.objs.size ≠ _; omega, big (by show _ ≤ h1.objs.size; omega)⟩
    · rw [List.mem_singleton.mp hp']
      exact ⟨k2 _ _ hx1, Nat.ne_of_lt lte, e0⟩
  refine kxs_method KX F2 X0 N2 List.mem_cons_self (InstAt.of_exc0 N2 (List.mem_cons_of_mem _ List.mem_cons_self)) T.op ?_ hsB rfl fun q h3 F3 N3 l3 => ?_
  · unfold ks_superIn
    rw [hcd]
    show alongIn K "__init__" (List.drop 1 (List.dropWhile (fun x => x != Value.ref C) cd.mro)) = _
    rw [hmro, ESX.drop_own]
    exact hal
  have qso : h1.objs.size < q := l3 _ List.mem_cons_self
  have hso : hp.objs.size < h1.objs.size := by rw [sz1]; exact Nat.lt_succ_self _
  have lso : e < h1.objs.size := Nat.lt_trans lte hso
  have qe : q ≠ e := Nat.ne_of_gt (Nat.lt_trans lso qso)
  have soe : h1.objs.size ≠ e := Nat.ne_of_gt lso
  refine kxs_callWith1 N3 List.mem_cons_self (Calls.spliced_cons (wpAny_Constant_str (x := m) (k := j) (pos := p3) (Calls.spliced_nil ⟨kxs_at N3 List.mem_cons_self, ?_⟩)))
  refine kxs_call F3 X0 N3 EB xI List.mem_cons_self (.tail qe (.tail soe (.head fun p hp' => absurd hp' List.not_mem_nil))) (one_size _) fun t1 h4 F4 N4 l4 => ?_
  have t1e : t1 ≠ e := Nat.ne_of_gt (Nat.lt_trans (Nat.lt_trans lso qso) (l4 _ List.mem_cons_self))
  show wpAt _ _ _ (execs _ _) _ _ _
  refine ks_wpAt_execs_cons (wpAt_of_wpAny (plainObj_wpAny_Assign_Attribute ?_))
  refine ESX.ldL (v := v) F4.ns ?_ (ESX.ldL (v := .ref e) F4.ns ?_ ?_ skind sself rfl) skind spar hpd
  · show List.lookup par [(par, v), (("self" : Str), Value.ref e)] = some v
    simp [List.lookup]
  · show List.lookup ("self" : Str) [(par, v), (("self" : Str), Value.ref e)] = some (.ref e)
    have z : (("self" : Str) == par) = false := by simpa using hne
    simp [List.lookup, z]
  refine set_exc0 SF F4 X0 N4 (List.mem_cons_of_mem _ (List.mem_cons_of_mem _ (List.mem_cons_of_mem _ List.mem_cons_self))) T.sa xO T.tk T.hd rfl (.tail t1e (.tail qe (.tail soe (.head fun p hp' => absurd hp' List.not_mem_nil)))) (by rw [put_one]; exact (by decide : 1 ≤ 1000)) fun dx h5 F5 N5 l5 => ?_
  have dso : h1.objs.size < dx := l5 _ (List.mem_cons_of_mem _ (List.mem_cons_of_mem _ List.mem_cons_self))
  show wpAt _ _ _ (execs [] _) _ _ _
  refine wpAt_of_wpAny (wpAny_execs_nil (hq h5 _ dx t1 ⟨fun b o hb z => F5.keep b o (h0g b o hb z), ?_, Nat.le_of_lt (Nat.lt_trans hso dso), Nat.ne_of_gt (Nat.lt_trans lso dso), ?_⟩))
  · exact (N5 _ (List.mem_cons_of_mem _ (List.mem_cons_of_mem _ (List.mem_cons_of_mem _ (List.mem_cons_of_mem _ List.mem_cons_self))))).1
  · exact dictOf_ns (N5 _ List.mem_cons_self).1
end
end IvX
end PySem

/-! ### a caught exception that is kept -/
namespace G
open PySem PySem.Spec PyProof.Rows L2
/-- the exception at a, of class cls, its own dict d -/
def exk (a : Addr) (cls : Value) (d : Option Addr) : HO := .ext fun h => ∃ o vs, h.get? a = some o ∧ o.cls = cls ∧ o.dict = d ∧ o.data = .fields vs
theorem exk_ok {P : Program} {w : World} {H : Hp} {h : Heap} {a : Addr} {cls : Value} {d : Option Addr} {o : Obj} {vs : Array Value} (ho : h.get? a = some o) (hz : Zc cls d o) (hd : o.data = .fields vs) : ObjOk P w H h a (exk a cls d) :=
  ⟨⟨o, vs, ho, hz.1, hz.2, hd⟩, ⟨o, ho⟩, fun h1 h2 ⟨o, vs, e, r⟩ k => ⟨o, vs, k _ e, r⟩⟩
theorem Inv_hold {X : Cx} {pins : List (Addr × Obj)} {σ : L2.St} {H : Hp} {s : Shared} {a : Addr} {oe : Obj} {vs : Array Value} {cls : Value} {d : Option Addr} (J : Inv X ((a, oe) :: pins) σ H s) (hz : Zc cls d oe) (hd : oe.data = .fields vs)
    (hn0 : X.s_0.heap.get? a = none) (hpn : ∀ p ∈ X.pn ++ pins, p.1 ≠ a) : Inv X pins σ (upd H a (exk a cls d)) s := by
  obtain ⟨ha, hH, hL, hF, hC⟩ := J.pin (a, oe) (List.mem_append_right _ List.mem_cons_self)
  have ha : s.heap.get? a = some oe := ha
  have hH : H a = none := hH
  have hL : a ≠ X.env.locals := hL
  have old : ∀ {b : Addr} {o : HO}, H b = some o → upd H a (exk a cls d) b = some o := fun {b o} e => by
    rw [upd_ne (ne_of_none e hH)]
    exact e
  refine ⟨J.ok, J.os, J.bare, ⟨J.base.keep, J.base.slot, fun b o e h1 h2 => ?_, J.base.there, fun b xs e => old (J.base.tups b xs e), fun b o u e => old (J.base.frzs b o u e), fun b ps e => ?_⟩, J.loc, J.cell, ?_, fun x c e => ?_, fun p hp => ?_, fun b o e => ?_, J.len⟩
  · rw [upd_ne (fun z => by rw [z, hn0] at e; cases e)]
    exact J.base.free b o e h1 h2
  · obtain ⟨more, q⟩ := J.base.tbls b ps e
    exact ⟨more, old q⟩
  · rw [upd_ne (Ne.symm hL)]
    exact J.free
  · have z : c ≠ a := fun z => by
      obtain ⟨v, o, ho, hv⟩ := J.cell x c e
      rw [z, ha] at ho
      cases ho
      exact hC _ hv
    rw [upd_ne z]
    exact J.freeC x c e
  · have hp' : p ∈ X.pn ++ ((a, oe) :: pins) := by
      rcases List.mem_append.mp hp with q | q
      · exact List.mem_append_left _ q
      · exact List.mem_append_right _ (List.mem_cons_of_mem _ q)
    obtain ⟨h1, h2, h3⟩ := J.pin p hp'
    refine ⟨h1, ?_, h3⟩
    rw [upd_ne (hpn p hp)]
    exact h2
  · by_cases z : b = a
    · subst z
      rw [upd_same] at e
      cases e
      exact exk_ok ha hz hd
    · rw [upd_ne z] at e
      exact ObjOk.stay (J.hok b o e) (fun c v x q => q) (fun c q => old q) (fun c xs q => old q)
/-- what happens to an exception behind a body: it is at a, of class cls, with the dict d; the state before it rose was (σ, H) -/
structure InAir (X : Cx) (pins : List (Addr × Obj)) (σ : L2.St) (H : Hp) (sI : Shared) (B : Heap) (a : Addr) (cls : Value) (d : Option Addr) (s : Shared) : Prop where
  inv : Inv X pins σ H sI
  nb : ∀ b o, sI.heap.get? b = some o → b ∉ frs X.stack → B.get? b = some o
  fl : HandSPX.FlyingZ B (X.env :: X.outer) a (Zc cls d) s.heap
  up : sI.heap.UpToSlots s.heap
  na : H a = none
  os : s.os = sI.os
  ag : AllBare s.gens
structure HandleOk (X : Cx) (hds : List ExceptHandler) (wt : Ends → WX) : Prop where
  run : ∀ {pins : List (Addr × Obj)} {σ : L2.St} {H : Hp} {sI : Shared} {B : Heap} {a : Addr} {cls : Value} {d : Option Addr} {D : Ends} {s : Shared},
  InAir X pins σ H sI B a cls d s → wt D cls d σ H → wpAny (model X.prog X.w) X.A (handleBy (.ref a) X.env hds) (SP X pins D) X.xe s
section
variable {X : Cx}
theorem handle_nil {Wout : WX} (hs : X.stack = X.env :: X.outer) (hf : X.env.frame = some X.env.locals) (tk : Takes X Wout) : HandleOk X [] (fun _ => Wout) := by
  refine ⟨?_⟩
  intro pins σ H sI B a cls d D s I hW
  obtain ⟨J, nb, fl, up, na, os, ag⟩ := I
  obtain ⟨k1, k2, k3, oe, vs, T, oT, ts', he, hz, hd, h1, hr⟩ := id fl
  refine wpAny_handleBy_nil (wpAny_bind (wpAny_field he hd h1 ?_))
  have z : ¬ ((Value.ref T == Value.none) = true) := by simp
  rw [if_neg z]
  refine wpAny_bind ?_
  rw [hf]
  refine HandSPX.setFlight_upZ fl fun h4 hh4 up4 => wpAny_throw (tk _ _ ⟨a, B, sI, pins, σ, H, cls, d, rfl, J, nb, up.trans up4, .inr (.inr ?_), na, os, ag, hW⟩)
  rw [hs]
  exact hh4
/-- the test of a clause -/
structure HTest (X : Cx) (tE : Expr) (test : Value → Bool → Prop) : Prop where
  run : ∀ {a : Addr} {oe : Obj} {pn pins : List (Addr × Obj)} {σ : L2.St} {H : Hp} {s : Shared} {cls : Value} {b : Bool} {Q : Value → Shared → Prop} {E : Value → Shared → Prop},
  Inv (X.suite a ((a, oe) :: pn)) pins σ H s → oe.cls = cls → test cls b →
  (∀ (c : Value) (h' : Heap) (tk : Nat), (∀ b o, s.heap.get? b = some o → h'.get? b = some o) → PySem.W.Looks (model X.prog X.w) h' (excMatches (.ref a) c) b → Q c { s with heap := h', toks := tk }) →
  wpAny (model X.prog X.w) (X.A.mark (some (.ref a))) (eval tE X.env) Q E s
theorem funFrames_keeps {B h h' : Heap} (k : ∀ b o, h.get? b = some o → h'.get? b = some o) : ∀ {l : List Env}, h.FunFrames B l → h'.FunFrames B l
  | [], x => x
  | e :: l, x => by
    obtain ⟨x1, ⟨L, o, e1, e2, e3, e4⟩, x3⟩ := x
    exact ⟨x1, ⟨L, o, e1, e2, k _ _ e3, e4⟩, funFrames_keeps k x3⟩
theorem flying_keeps {B h h' : Heap} {l : List Env} {a : Addr} {Z : Obj → Prop} (k : ∀ b o, h.get? b = some o → h'.get? b = some o) (fl : HandSPX.FlyingZ B l a Z h) : HandSPX.FlyingZ B l a Z h' := by
  obtain ⟨k1, k2, k3, oe, vs, T, oT, ts', he, hz, hd, h1, h2, h3, h4, h5⟩ := fl
  exact ⟨fun b o e => k _ _ (k1 b o e), k2, funFrames_keeps k k3, oe, vs, T, oT, ts', k _ _ he, hz, hd, h1, h2, h3, k _ _ h4, h5⟩
theorem upToSlots_keeps {h h' : Heap} (k : ∀ b o, h.get? b = some o → h'.get? b = some o) : h.UpToSlots h' := fun b o e _ => ⟨o.slots, k _ _ e⟩
/-- the suite's end: what was pinned in it is pinned behind it -/
theorem unsuite_pin {pins : List (Addr × Obj)} {σ : L2.St} {H : Hp} {s : Shared} {a : Addr} {oe : Obj} {pn' : List (Addr × Obj)} (S : Inv (X.suite a ((a, oe) :: (X.pn ++ pins))) pn' σ H s) (ok : X.Ok) : Inv X ((a, oe) :: pins) σ H s := by
  have J := Inv.unsuite S ok
  refine ⟨J.ok, J.os, J.bare, J.base, J.loc, J.cell, J.free, J.freeC, fun p hp => ?_, J.hok, J.len⟩
  have hp' : p ∈ (X.suite a ((a, oe) :: (X.pn ++ pins))).pn ++ pn' := by
    refine List.mem_append_left _ ?_
    rcases List.mem_append.mp hp with q | q
    · exact List.mem_cons_of_mem _ (List.mem_append_left _ q)
    · rcases List.mem_cons.mp q with q | q
      · rw [q]; exact List.mem_cons_self
      · exact List.mem_cons_of_mem _ (List.mem_append_right _ q)
  exact S.pin p hp'
abbrev keptD (D : Ends) (i : Nat) (a : Addr) (cls : Value) (d : Option Addr) : Ends := ⟨fun σ' H' => D.nx (σ'.set i none) (upd H' a (exk a cls d)), fun _ _ => False, fun _ _ => False, fun _ _ => False⟩
theorem handle_cons {tE : Expr} {test : Value → Bool → Prop} {n : Str} {i : Nat} {b₀ : Stmt} {suite : List Stmt} {pos' : Pos} {rest : List ExceptHandler} {wt : Ends → WX} {ts : Addr → Value → Option Addr → TS}
    (hs : X.stack = X.env :: X.outer) (hf : X.env.frame = some X.env.locals) (hex : X.ex = []) (hN : X.N.Nodup) (hi : X.N[i]? = some n) (hln : X.env.kindOf n = some .local) (hc : HTest X tE test)
    (hsu : ∀ (a : Addr) (oe : Obj) (cls : Value) (d : Option Addr) (pn : List (Addr × Obj)), Zc cls d oe → (∃ vs, oe.data = .fields vs) → PSs (X.suite a ((a, oe) :: pn)) (b₀ :: suite) (ts a cls d)) (hr : HandleOk X rest wt) :
    HandleOk X (.ExceptHandler (some tE) (some n) (b₀ :: suite) pos' :: rest) (fun D cls d σ H => ∃ b, test cls b ∧ (b = true → ∀ a, H a = none → i < σ.length → ts a cls d (keptD D i a cls d) (σ.set i (some (.ref a))) H) ∧ (b = false → wt D cls d σ H)) := by
  refine ⟨?_⟩
  intro pins σ H sI B a cls d D s I hW
  obtain ⟨b, hb1, hyes, hno⟩ := hW
  obtain ⟨J, nb, fl, up, na, os, ag⟩ := id I
  have J3 : Inv X pins σ H s := J.landed nb fl.1 up os ag
  obtain ⟨oe3, vs3, he3, hz3, hd3⟩ := fl.there
  have nfr : a ∉ List.filterMap (fun x : Env => x.frame) (X.env :: X.outer) := fun hm => by
    obtain ⟨_, o, e1, e2⟩ := Heap.FunFrames.mem fl.2.2.1 hm
    rw [he3] at e1
    cases e1
    exact e2 _ hd3
  have nL : a ≠ X.env.locals := fun z => nfr (List.mem_filterMap.mpr ⟨X.env, List.mem_cons_self, by rw [hf, z]⟩)
  have nF : a ∉ X.fs := fun hm => by
    obtain ⟨e, he, q⟩ := List.mem_filterMap.mp hm
    exact nfr (List.mem_filterMap.mpr ⟨e, List.mem_cons_of_mem _ he, q⟩)
  have nI : sI.heap.get? a = none := by
    cases z : sI.heap.get? a with
    | none => rfl
    | some o =>
      have := nb a o z (fun q => nfr (by rw [hs] at q; exact q))
      rw [fl.2.1] at this
      cases this
  have n0 : X.s_0.heap.get? a = none := by
    cases z : X.s_0.heap.get? a with
    | none => rfl
    | some o =>
      obtain ⟨o', q⟩ := J.base.there a o z (by rw [hex]; exact List.not_mem_nil)
      rw [nI] at q
      cases q
  have hpn : ∀ p ∈ X.pn ++ pins, p.1 ≠ a := fun p hp z => by
    have q := (J.pin p hp).1
    rw [z, nI] at q
    cases q
  have S3 := J3.suite he3 hd3 na nL nF
  refine wpAny_handleBy_cons (codeAny_handlers_test (hc.run S3 hz3.1 hb1 fun c h' tk k LM => PySem.W.Looks.here LM ?_)) (fun z => by cases z)
  have fl' := flying_keeps k fl
  have up' := up.trans (upToSlots_keeps k)
  cases b with
  | false =>
    show wpAny _ _ (handleBy _ _ _) _ _ _
    exact hr.run ⟨J, nb, fl', up', na, os, ag⟩ (hno rfl)
  | true =>
    show codeAny _ _ _ _ _
    refine codeAny_handlers_suite_as (HandSPX.lands_againZ fl' fun h4 fl4 up4 => ?_)
    have J4 : Inv X pins σ H _ := J.landed (s' := ⟨h4, s.gens, s.drawn, tk, s.os⟩) nb fl4.1 (up'.trans up4) os ag
    obtain ⟨oe4, vs4, he4, hz4, hd4⟩ := fl4.there
    have S4 := J4.suite he4 hd4 na nL nF
    refine store_ok (X := X.suite a ((a, oe4) :: (X.pn ++ pins))) (v := .ref a) S4 hN hi (.inl hln) rfl (fun s5 S5 => wpAny_mono ((hsu a oe4 cls d (X.pn ++ pins) hz4 ⟨vs4, hd4⟩).run [] s5 _ H (keptD D i a cls d) S5 (hyes rfl a na (by rw [J.len]; exact (List.getElem?_eq_some_iff.mp hi).1))) (fun f s6 hsp => ?_) fun e s6 hx => hx.elim) (hf := .inr hln)
    match f, hsp with
    | .next, hsp =>
      obtain ⟨σ6, H6, S6, q6⟩ := hsp
      exact gone_ok (unsuite_pin S6 J.ok) hN hi hln fun s7 J7 => ⟨_, _, Inv_hold J7 hz4 hd4 n0 hpn, q6⟩
    | .brk, hsp =>
      obtain ⟨_, _, _, q⟩ := hsp
      exact q.elim
    | .cont, hsp =>
      obtain ⟨_, _, _, q⟩ := hsp
      exact q.elim
    | .ret u, hsp =>
      obtain ⟨_, _, _, _, _, q⟩ := hsp
      exact q.elim
theorem ps_try_kept {body : List Stmt} {h₀ : ExceptHandler} {hds : List ExceptHandler} {pos : Pos} {tb : WX → TS} {wt : Ends → WX} (hs : X.stack = X.env :: X.outer) (hf : X.env.frame = some X.env.locals) (hh : HandleOk X (h₀ :: hds) wt)
    (hb : ∀ (W : WX) (pn : List (Addr × Obj)) (xe : Value → Shared → Prop), Takes (X.tr pn xe) W → PassesOwn (model X.prog X.w) X.A X.env xe → PSs (X.tr pn xe) body (tb W)) : PS X (.Try body (h₀ :: hds) [] [] pos) (fun D σ H => tb (wt D) D σ H) := by
  refine ⟨fun pins s σ H D I h => ?_⟩
  have ok := I.ok
  have hfr : X.A.frames = some (X.env :: X.outer) := by rw [ok.frames, hs]
  refine wpAny_Try_except (wpAny_mono ((hb (wt D) (X.pn ++ pins) (fun e s₁ => wpAny (model X.prog X.w) X.A (noteFrame e X.env) (fun _ s₂ => wpAny (model X.prog X.w) X.A (setFlight e none) (fun _ s₃ => wpAny (model X.prog X.w) X.A (handleBy e X.env (h₀ :: hds)) (SP X pins D) X.xe s₃) X.xe s₂) X.xe s₁) (fun u s' xx => ?_) PassesOwn.looking).run [] s σ H D (I.toTry _) h) (fun f s1 hsp => ?_) fun e s1 he => he)
  · obtain ⟨a, B, sI, pins', σ', H', cls, d, rfl, J', nb, up, sky, na, os, ag, hW⟩ := xx
    have J : Inv X pins σ' H' sI := Inv.ofTry J' ok
    have sky' : Sky B (X.env :: X.outer) a (Zc cls d) X.env.locals s'.heap := by
      rw [← hs]
      exact sky
    exact Sky.land Zc.steady hfr hf sky' fun h3 fl3 up3 => hh.run ⟨J, nb, fl3, up.trans up3, na, os, ag⟩ hW
  · match f, hsp with
    | .next, hsp =>
      obtain ⟨σ', H', J', q⟩ := hsp
      exact wpAny_execs_nil ⟨σ', H', Inv.ofTry J' ok, q⟩
    | .brk, hsp =>
      obtain ⟨σ', H', J', q⟩ := hsp
      exact ⟨σ', H', Inv.ofTry J' ok, q⟩
    | .cont, hsp =>
      obtain ⟨σ', H', J', q⟩ := hsp
      exact ⟨σ', H', Inv.ofTry J' ok, q⟩
    | .ret u, hsp =>
      obtain ⟨v, σ', H', J', r, q⟩ := hsp
      exact ⟨v, σ', H', Inv.ofTry J' ok, r, q⟩
/-! the tests: one class, or some in brackets -/
theorem htest_one {x : Str} {c : Addr} {p : Pos} (hg : Gl X x) (hm : X.mg x = some (.ref c)) (hd : (x == ("__debug__" : Str)) = false) : HTest X (.Name x p) (fun cls b => PySem.W.exmOne X.K cls (.ref c) = some b) := by
  refine ⟨?_⟩
  intro a oe pn pins σ H s cls b Q E S hz hb q
  obtain ⟨he, _⟩ := S.pin (a, oe) (List.mem_append_left _ List.mem_cons_self)
  have he : s.heap.get? a = some oe := he
  have S : Inv (X.suite a ((a, oe) :: pn)) pins σ H s := S
  have LT : PySem.W.Looks (model X.prog X.w) s.heap (typeOf (.ref a)) cls := fun A Q E s k q => wpAny_typeOf_ref (k a oe he) (by rw [hz]; exact q)
  exact ld_glob S hg hm (q (.ref c) s.heap s.toks (fun _ _ z => z) (PySem.W.exm_one S.kIn LT hb)) hd
theorem names_spliced {pos : Pos} {a : Addr} {oe : Obj} {pn pins : List (Addr × Obj)} {σ : L2.St} {H : Hp} {E : Value → Shared → Prop} : ∀ (l : List (Str × Addr × Pos)), (∀ y ∈ l, Gl X y.1 ∧ X.mg y.1 = some (.ref y.2.1) ∧ (y.1 == ("__debug__" : Str)) = false) → ∀ {s : Shared} {Q : List Value → Shared → Prop},
    Inv (X.suite a ((a, oe) :: pn)) pins σ H s → Q (l.map fun y => .ref y.2.1) s → wpAny (model X.prog X.w) (X.A.mark (some (.ref a))) (spliced (backTo pos (starEach (l.map fun y => PySem.Expr.Name y.1 y.2.2) X.env))) Q E s
  | [], _, s, Q, S, q => PySem.Calls.spliced_nil q
  | y :: l, hl, s, Q, S, q => by
    obtain ⟨h1, h2, h3⟩ := hl y List.mem_cons_self
    have ih := names_spliced (pos := pos) (E := E) l (fun z hz => hl z (List.mem_cons_of_mem _ hz)) (Q := fun vs s₂ => Q (.ref y.2.1 :: vs) s₂) S q
    exact PySem.Calls.spliced_cons (ld_glob S h1 h2 ih h3)
theorem htest_tup (l : List (Str × Addr × Pos)) {j : Nat} {pos : Pos} (hl : ∀ y ∈ l, Gl X y.1 ∧ X.mg y.1 = some (.ref y.2.1) ∧ (y.1 == ("__debug__" : Str)) = false) (hz : l.length ≤ 100)
    (LM : ∀ (h : Heap) (tp e : Addr) (cls : Value) (b : Bool), X.K.In h → PySem.W.Looks (model X.prog X.w) h (typeOf (.ref e)) cls → h.get? tp = some { cls := .type "tuple", data := .seq (l.map fun y => Value.ref y.2.1).toArray } → PySem.W.exmAny X.K cls (l.map fun y => Value.ref y.2.1) = some b → PySem.W.Looks (model X.prog X.w) h (excMatches (.ref e) (.ref tp)) b) :
    HTest X (.Tuple (l.map fun y => PySem.Expr.Name y.1 y.2.2) j pos) (fun cls b => PySem.W.exmAny X.K cls (l.map fun y => Value.ref y.2.1) = some b) := by
  refine ⟨?_⟩
  intro a oe pn pins σ H s cls b Q E S hz' hb q
  obtain ⟨he, _⟩ := S.pin (a, oe) (List.mem_append_left _ List.mem_cons_self)
  have he : s.heap.get? a = some oe := he
  refine wpAny_Tuple_spliced (names_spliced l hl S ⟨by rw [List.length_map, sizeLine_eq]; omega, ?_⟩)
  have k : ∀ b o, s.heap.get? b = some o → (s.heap.push { cls := Value.type "tuple", data := Data.seq (l.map fun y => Value.ref y.2.1).toArray }).get? b = some o := fun b o e => Heap.get?_push_of_some _ e
  refine q _ _ s.toks k (LM _ _ _ cls b (S.kIn.keeps k) (fun A Q E s k' q => wpAny_typeOf_ref (k' a oe (k _ _ he)) (by rw [hz']; exact q)) (Heap.get?_push_size _ rfl) hb)
end
end G

/-! ### what may raise -/
namespace G
open PySem PySem.Spec PyProof.Rows L2
/-- what an exception carries: nothing, or the fields of its own dict -/
abbrev XPay := Option (List (Str × SD))
def XdOk (F : Hp) (d : Option Addr) (p : XPay) : Prop := match d, p with
  | none, none => True
  | some dd, some fs => ∃ vs, F dd = some (.xd vs) ∧ Paired (FEnt F) vs fs
  | _, _ => False
theorem XdOk.mono {F F' : Hp} (e : Same F F') {d : Option Addr} {p : XPay} (h : XdOk F d p) : XdOk F' d p := by
  cases d with
  | none =>
    cases p with
    | none => trivial
    | some fs => exact h
  | some dd =>
    cases p with
    | none => exact h
    | some fs =>
      obtain ⟨vs, h1, h2⟩ := h
      exact ⟨vs, e _ _ h1, Paired.mapP h2 fun _ _ q => ⟨q.1, SOk.mono e q.2⟩⟩
/-- the wish behind an exception: in a body it knows the names, at a call it does not -/
abbrev XKn := List SD → Addr → XPay → Mem → Prop
abbrev XKf := Addr → XPay → Mem → Prop
def SatX (B : Bs) (F : Hp) (Ex : XKn) (W : WX) : Prop := ∀ ρ C p M d σ F' H', Ex ρ C p M → Wd B F' H' M → Same F F' → XdOk F' d p → Paired (SOk F') σ ρ → W (.ref C) d σ H'
def SatXf (B : Bs) (F : Hp) (Ex : XKf) (E : XK) : Prop := ∀ C p M d F' H', Ex C p M → Wd B F' H' M → Same F F' → XdOk F' d p → E (.ref C) d H'
theorem SatX.mono {B : Bs} {F F' : Hp} {Ex : XKn} {W : WX} (h : SatX B F Ex W) (e : Same F F') : SatX B F' Ex W := fun ρ C p M d σ F2 H2 q w s x y => h ρ C p M d σ F2 H2 q w (e.trans s) x y
section
variable (X : Cx) (ρ : List SD) (M : Mem)
structure GEx (e : Expr) (Q : Kn) (Ex : XKn) : Prop where
  run : ∀ B F H σ Q' W, Takes X W → Wd B F H M → Paired (SOk F) σ ρ → Sat B F Q Q' → SatX B F Ex W → wE X e σ H Q'
structure GSx (st : Stmt) (D : GD) (Ex : XKn) : Prop where
  run : ∀ B F H σ D' W, Takes X W → PassesOwn (model X.prog X.w) X.A X.env X.xe → Wd B F H M → Paired (SOk F) σ ρ → SatS B F D D' → SatX B F Ex W → wS X st D' σ H
structure GBx (sts : List Stmt) (D : GD) (Ex : XKn) : Prop where
  run : ∀ B F H σ D' W, Takes X W → PassesOwn (model X.prog X.w) X.A X.env X.xe → Wd B F H M → Paired (SOk F) σ ρ → SatS B F D D' → SatX B F Ex W → wB X sts D' σ H
end
section
variable {X : Cx} {ρ : List SD} {M : Mem} {Q : Kn} {D : GD} {Ex : XKn} {pos : Pos} {a b c e tg it : Expr} {es : List Expr} {st : Stmt} {sts body : List Stmt}
/-! from what does not raise -/
theorem wE_nox {σ : L2.St} {H : Hp} {Q' : VK} (h : wE X.nox e σ H Q') : wE X e σ H Q' := fun pins s I => wpAny_mono (h pins s (I.wish _)) (fun v s' ⟨x, H', J, r, q⟩ => ⟨x, H', J.wish X.xe, r, q⟩) fun _ _ z => z.elim
theorem wS_nox {σ : L2.St} {H : Hp} {D' : Ends} (h : wS X.nox st D' σ H) : wS X st D' σ H := fun pins s I => wpAny_mono (h pins s (I.wish _)) (fun f s' q => by
  match f, q with
  | .next, ⟨σ', H', J, q⟩ => exact ⟨σ', H', J.wish X.xe, q⟩
  | .brk, ⟨σ', H', J, q⟩ => exact ⟨σ', H', J.wish X.xe, q⟩
  | .cont, ⟨σ', H', J, q⟩ => exact ⟨σ', H', J.wish X.xe, q⟩
  | .ret u, ⟨v, σ', H', J, r, q⟩ => exact ⟨v, σ', H', J.wish X.xe, r, q⟩) fun _ _ z => z.elim
theorem gex_of (h : GE X ρ M e Q) : GEx X ρ M e Q Ex := ⟨fun B F H σ Q' W _ Wd S s _ => h B F H σ Q' Wd S s⟩
theorem gsx_of (h : GS X ρ M st D) : GSx X ρ M st D Ex := ⟨fun B F H σ D' W _ _ Wd S s _ => h B F H σ D' Wd S s⟩
theorem gsx_ofN (h : GS X.nox ρ M st D) : GSx X ρ M st D Ex := ⟨fun B F H σ D' W _ _ Wd S s _ => wS_nox (h B F H σ D' Wd S s)⟩
/-! blocks -/
theorem bxnil (q : D.nx ρ M) : GBx X ρ M [] D Ex := ⟨fun B F H σ D' W _ _ Wd S s _ => wB_of pss_nil (s.nx _ _ _ F H q Wd (Same.refl F) S)⟩
theorem bxcons (h : GSx X ρ M st { D with nx := fun ρ1 M1 => GBx X ρ1 M1 sts D Ex } Ex) : GBx X ρ M (st :: sts) D Ex := ⟨fun B F H σ D' W tk hp Wd S s sx =>
  wB_of (pss_cons pS pB) (h.run B F H σ _ W tk hp Wd S ⟨fun ρ1 M1 σ1 F1 H1 q W1 s1 S1 => (show GBx X ρ1 M1 sts D Ex from q).run B F1 H1 σ1 D' W tk hp W1 S1 (s.mono s1) (sx.mono s1), s.rt, s.bk, s.ct⟩ sx)⟩
theorem bxone (h : GSx X ρ M st D Ex) : GBx X ρ M [st] D Ex := ⟨fun B F H σ D' W tk hp Wd S s sx => wB_of (pss_one pS) (h.run B F H σ D' W tk hp Wd S s sx)⟩
theorem bxseq (R : List SD → Mem → Prop) (h : GSx X ρ M st { D with nx := R } Ex) (k : ∀ ρ1 M1, R ρ1 M1 → GBx X ρ1 M1 sts D Ex) : GBx X ρ M (st :: sts) D Ex := ⟨fun B F H σ D' W tk hp Wd S s sx =>
  wB_of (pss_cons pS pB) (h.run B F H σ _ W tk hp Wd S ⟨fun ρ1 M1 σ1 F1 H1 q W1 s1 S1 => (k ρ1 M1 q).run B F1 H1 σ1 D' W tk hp W1 S1 (s.mono s1) (sx.mono s1), s.rt, s.bk, s.ct⟩ sx)⟩
theorem bx_of (h : GB X ρ M sts D) : GBx X ρ M sts D Ex := ⟨fun B F H σ D' W _ _ Wd S s _ => h B F H σ D' Wd S s⟩
theorem bxforget {M2 : Mem} (hs : List.Sublist M2 M) (h : GBx X ρ M2 sts D Ex) : GBx X ρ M sts D Ex := ⟨fun B F H σ D' W tk hp Wd S s sx => h.run B F H σ D' W tk hp (Wd.sub hs) S s sx⟩
theorem bxperm {M2 : Mem} (hs : M.Perm M2) (h : GBx X ρ M2 sts D Ex) : GBx X ρ M sts D Ex := ⟨fun B F H σ D' W tk hp Wd S s sx => h.run B F H σ D' W tk hp (Wd.perm hs) S s sx⟩
/-! statements -/
theorem sxexpr (h : GEx X ρ M e (fun _ M1 => D.nx ρ M1) Ex) (hs : swapsWith e none pos.line X.env = pure false := by rfl) : GSx X ρ M (.Expr e pos) D Ex := ⟨fun B F H σ D' W tk _ Wd S s sx =>
  wS_of (ps_expr pE hs) (h.run B F H σ _ W tk Wd S (fun r M1 v F1 H1 q W1 s1 _ => s.nx _ _ _ F1 H1 q W1 s1 (pMono s1 S)) sx)⟩
theorem sxret (h : GEx X ρ M e D.rt Ex) : GSx X ρ M (.Return (some e) pos) D Ex := ⟨fun B F H σ D' W tk _ Wd S s sx => wS_of (ps_ret pE) (h.run B F H σ _ W tk Wd S s.rt sx)⟩
theorem sxset (i : Nat) {x : Str} {pos' : Pos} (hN : X.N.Nodup) (h : GEx X ρ M e (fun r M1 => D.nx (ρ.set i r) M1) Ex) (hi : X.N[i]? = some x := by rfl) (hx : Loc X.env.scope x := by first | exact Or.inl rfl | exact Or.inr rfl) (hs : swapsWith e (some (.Name x pos')) pos.line X.env = pure false := by rfl) (hf : X.fn x = true ∨ X.env.scope.names.lookup x = some .local := by first | exact .inl rfl | exact .inr rfl | assumption) :
    GSx X ρ M (.Assign [.Name x pos'] e pos) D Ex := ⟨fun B F H σ D' W tk _ Wd S s sx =>
  wS_of (ps_set hN hi hx pE hs hf) (h.run B F H σ _ W tk Wd S (fun r M1 v F1 H1 q W1 s1 vv => s.nx _ _ _ F1 H1 q W1 s1 (pset vv i (pMono s1 S))) sx)⟩
theorem sxif {t u : List Stmt} (h : GT X ρ M c fun k M1 => if k = true then GBx X ρ M1 t D Ex else GBx X ρ M1 u D Ex) : GSx X ρ M (.If c t u pos) D Ex := ⟨fun B F H σ D' W tk hp Wd S s sx => by
  refine wS_of (ps_if pT pB pB) (h B F H σ _ Wd S fun k M1 F1 H1 hx W1 s1 => ?_)
  cases k with
  | true => exact iteT ((show GBx X ρ M1 t D Ex from hx).run B F1 H1 σ D' W tk hp W1 (pMono s1 S) (s.mono s1) (sx.mono s1))
  | false => exact iteF ((show GBx X ρ M1 u D Ex from hx).run B F1 H1 σ D' W tk hp W1 (pMono s1 S) (s.mono s1) (sx.mono s1))⟩
theorem sxfor (hc : X.calm = true)
    (h : GI X ρ M tg it fun n item M1 => ∃ Pv : Nat → List SD → Mem → Prop, Pv 0 ρ M1 ∧ (∀ i ρ' M', i < n → Pv i ρ' M' → GG X ρ' M' tg (item i) fun ρ2 M2 => GBx X ρ2 M2 body ⟨Pv (i + 1), D.rt, D.nx, Pv (i + 1)⟩ Ex) ∧ ∀ ρ' M', Pv n ρ' M' → D.nx ρ' M')
    (hs : ∀ x, foldedSetIterable it X.env x = pure x := by intro _; rfl) : GSx X ρ M (.For tg it body [] pos) D Ex := ⟨fun B F H σ D' W tk hp Wd0 S s sx => by
  refine wS_of (ps_for hp hc pI pG pB hs) (h B F H σ _ Wd0 S fun n item M1 J F1 H1 hx W1 s1 gi => ?_)
  obtain ⟨Pv, p0, turn, fin⟩ := hx
  refine ⟨fun i m σ' H' => i + m = n ∧ ∃ ρ' M' F', Pv i ρ' M' ∧ Wd B F' H' M' ∧ Same F1 F' ∧ Paired (SOk F') σ' ρ', ⟨n, Nat.zero_add n, ρ, M1, F1, p0, W1, Same.refl F1, pMono s1 S⟩, ?_⟩
  rintro i m σ' H' ⟨him, ρ', M', F', pv, W', s', S'⟩
  by_cases hi : i < n
  · refine .inr ⟨gi.go i F' H' s' W'.fh hi, fun σ2 H2 => ∃ ρ2 M2 F2, Pv (i + 1) ρ2 M2 ∧ Wd B F2 H2 M2 ∧ Same F1 F2 ∧ Paired (SOk F2) σ2 ρ2, fun σ2 H2 ⟨ρ2, M2, F2, q1, q2, q3, q4⟩ => ⟨m - 1, by omega, by omega, ρ2, M2, F2, q1, q2, q3, q4⟩, fun x H2 y => ?_⟩
    obtain ⟨F2, s2, W2, v2⟩ := gi.yld i B F' H' M' x H2 hi s' W' y
    refine turn i ρ' M' hi pv B F2 H2 σ' x _ W2 (pMono s2 S') v2 fun ρ3 M3 σ3 F3 H3 q W3 s3 S3 => ?_
    refine (show GBx X ρ3 M3 body _ Ex from q).run B F3 H3 σ3 _ W tk hp W3 S3 ⟨?_, ?_, ?_, ?_⟩ (sx.mono ((s1.trans s').trans (s2.trans s3)))
    · exact fun ρ4 M4 σ4 F4 H4 q W4 s4 S4 => ⟨ρ4, M4, F4, q, W4, ((s'.trans s2).trans s3).trans s4, S4⟩
    · exact s.rt.mono ((s1.trans s').trans (s2.trans s3))
    · exact s.nx.mono ((s1.trans s').trans (s2.trans s3))
    · exact fun ρ4 M4 σ4 F4 H4 q W4 s4 S4 => ⟨ρ4, M4, F4, q, W4, ((s'.trans s2).trans s3).trans s4, S4⟩
  · have e : i = n := by omega
    subst e
    exact .inl ⟨gi.stop F' H' s' W'.fh, s.nx ρ' M' σ' F' H' (fin ρ' M' pv) W' (s1.trans s') S'⟩⟩
end
end G

/-! ### defs that may raise -/
namespace G
open PySem PySem.Spec PyProof.Rows L2
abbrev GSpecX := List SD → Mem → Kn → XKf → Prop
def spGX (S : GSpecX) : Sp := fun vs H Q E => ∃ F rs M Kk Ke, Paired (VOk F) vs rs ∧ Wd (here F H M) F H M ∧ S rs M Kk Ke ∧ Sat (here F H M) F Kk Q ∧ SatXf (here F H M) F Ke E
/-- the spec may speak of the state in which the def is called -/
structure FnGS (P : Program) (w : World) (K : PySem.W.Frag) (mg : Str → Option Value) (base : Heap) (k : Nat) (f : Addr) (fd : FuncData) (ps : List Str) (S : Around → List Env → Shared → Hp → GSpecX) : Prop where
  len : ∀ A outer s H rs M Kk Ke, S A outer s H rs M Kk Ke → rs.length = ps.length
  run : ∀ (A : Around) (outer : List Env) (s : Shared) (H : Hp) (args : Args) (us : List Value) (vs : List V) (Q : VK) (E : XK),
    A.guards = some [] → Room k A → Env0 P w K mg base A outer s H → BindsTo s fd args (ps.zip us) → Vals vs us → spGX (S A outer s H) vs H Q E →
    codeAny (model P w) A (.call (.ref f) args) (CR (CX P w) outer P w H s Q E) s
abbrev FnGX (P : Program) (w : World) (K : PySem.W.Frag) (mg : Str → Option Value) (base : Heap) (k : Nat) (f : Addr) (fd : FuncData) (ps : List Str) (S : GSpecX) : Prop := FnGS P w K mg base k f fd ps (fun _ _ _ _ => S)
theorem FnGS.mono {P : Program} {w : World} {K : PySem.W.Frag} {mg : Str → Option Value} {base : Heap} {j k : Nat} {f : Addr} {fd : FuncData} {ps : List Str} {S : Around → List Env → Shared → Hp → GSpecX} (F : FnGS P w K mg base j f fd ps S) (h : j ≤ k) : FnGS P w K mg base k f fd ps S :=
  ⟨F.len, fun A o s H args us vs Q E g hr => F.run A o s H args us vs Q E g (hr.mono h)⟩
section
variable {X : Cx} {ρ : List SD} {M : Mem} {Q : Kn} {Ex : XKn} {pos : Pos} {a b c e : Expr} {es : List Expr} {k : Nat} {f : Addr} {fd : FuncData} {ps : List Str} {S : Around → List Env → Shared → Hp → GSpecX} {T : GSpecX}
theorem spGX_len {A : Around} {outer : List Env} {s : Shared} {H0 : Hp} {vs : List V} {H : Hp} {Q' : VK} {E : XK} (F : FnGS X.prog X.w X.K X.mg X.base k f fd ps S) (h : spGX (S A outer s H0) vs H Q' E) : vs.length = ps.length := by
  obtain ⟨F', rs, M', Kk, Ke, h1, _, h2, _⟩ := h
  rw [Paired.length h1]
  exact F.len _ _ _ _ _ _ _ _ h2
/-- the callee runs; what it raises flies on -/
theorem runGS {args : Args} {us : List Value} {vs : List V} {Q' : VK} {W : WX} {pins : List (Addr × Obj)} {σ : L2.St} {H : Hp} {s : Shared}
    (F : FnGS X.prog X.w X.K X.mg X.base k f fd ps S) (tk : Takes X W) (hgd : X.A.guards = some []) (hr : Room k X.A) (hb : BindsTo s fd args (ps.zip us))
    (I : Inv X pins σ H s) (r : Vals vs us) (h : spGX (S X.A X.stack s H) vs H Q' (fun cls d H' => W cls d σ H')) :
    wpAny (model X.prog X.w) X.A (call (.ref f) args.pos args.kw) (EP X pins σ Q') X.xe s := by
  have z := F.run X.A X.stack s H args us vs Q' _ hgd hr I.env0 hb r h
  refine wpAny_call (codeAny_mono z fun res s' hq => ?_)
  match res, hq with
  | .error _, hq => exact tk _ _ (XE.of_call I (fun _ _ _ q => q) hq)
  | .ok (.ret _), hq => exact I.after hq
  | .ok .next, hq => exact False.elim hq
  | .ok .brk, hq => exact False.elim hq
  | .ok .cont, hq => exact False.elim hq
/-- from what the caller knows to what the callee asks -/
theorem toSpX {B : Bs} {F H : Hp} {M1 Ma Mr : Mem} {rs : List SD} {vs : List V} {Q' : VK} {W : WX} {σ : L2.St} (Wd1 : Wd B F H M1) (hp : M1.Perm (Ma ++ Mr)) (vx : Paired (VOk F) vs rs) (S0 : Paired (SOk F) σ ρ)
    (h : T rs Ma (fun r M' => Q r (M' ++ Mr)) (fun C p M' => Ex ρ C p (M' ++ Mr))) (s : Sat B F Q Q') (sx : SatX B F Ex W) : spGX T vs H Q' (fun cls d H' => W cls d σ H') := by
  have W1 := Wd1.perm hp
  have W2 := W1.sub (List.sublist_append_left Ma Mr)
  refine ⟨F, rs, Ma, _, _, vx, W2.here, h, fun r M' v F' H' q W' s' vv => ?_, fun C p M' d F' H' q W' s' x => ?_⟩
  · exact s r _ v F' H' q (W1.frame W') s' vv
  · exact sx ρ C p _ d σ F' H' q (W1.frame W') s' x (pMono s' S0)
/-- f(e, ..) -/
theorem gxcall {x : Str} {p : Pos} (F : FnGX X.prog X.w X.K X.mg X.base k f fd ps T) (hgd : X.A.guards = some []) (hr : Room k X.A) (hm : X.mg x = some (.ref f)) (hk : PySem.W.keepIn X.K (.ref f) = true) (hb : Binds X.K fd ps [])
    (h : GA X ρ M (e :: es) fun rs M1 => ∃ Ma Mr, M1.Perm (Ma ++ Mr) ∧ T rs Ma (fun r M' => Q r (M' ++ Mr)) (fun C p M' => Ex ρ C p (M' ++ Mr))) (hg : Gl X x := by rfl) (hdb : (x == ("__debug__" : Str)) = false := by decide)
    (he : starEach (e :: es) X.env = (false, eval e X.env) :: starEach es X.env := by rfl) (hpl : (backTo pos (starEach es X.env)).any (·.1) = false := by rfl) : GEx X ρ M (.Call (.Name x p) (e :: es) [] pos) Q Ex := ⟨fun B F' H σ Q' W tk Wd0 S' s sx => by
  intro pins st I
  refine wpAny_Call_Name_kw (ld_glob I hg hm ?_ hdb)
  have z := h B F' H σ (fun vs H1 => spGX T vs H1 Q' (fun cls d H' => W cls d σ H')) Wd0 S' fun rs M1 vs F1 H1 hx W1 s1 vx => by
    obtain ⟨Ma, Mr, hp, hs⟩ := hx
    exact toSpX W1 hp vx (pMono s1 S') hs (s.mono s1) (sx.mono s1)
  refine PySem.W.callWith_K (h₀ := X.base) I.ok.mod.kin hk (thn (z pos pins st I) fun us s1 hh => ?_) he hpl
  obtain ⟨vs, H1, I1, r, q⟩ := hh
  refine ⟨I1.kIn, ?_⟩
  have hl : (us ++ []).length = ps.length := by
    rw [List.append_nil, ← r.length]
    exact spGX_len (A := X.A) (outer := X.stack) (s := s1) (H0 := H1) F q
  have hb' := hb s1 us I1.kIn hl
  rw [List.append_nil] at hb'
  exact runGS (args := ⟨us, []⟩) F tk hgd hr hb' I1 r q⟩
/-- f(k = e, ..) -/
theorem gxcallK {x : Str} {p : Pos} {ks : List Str} {kw : Keyword} {kws : List Keyword} {g : {α : Type} → List α → List α} (F : FnGX X.prog X.w X.K X.mg X.base k f fd ps T) (hgd : X.A.guards = some []) (hr : Room k X.A) (hm : X.mg x = some (.ref f)) (hk : PySem.W.keepIn X.K (.ref f) = true) (hb : KwB X.K fd ps ks g)
    (h : GK X ρ M (kw :: kws) fun rs M1 => rs.length = ks.length ∧ ∃ Ma Mr, M1.Perm (Ma ++ Mr) ∧ T (g rs) Ma (fun r M' => Q r (M' ++ Mr)) (fun C p M' => Ex ρ C p (M' ++ Mr))) (hg : Gl X x := by rfl) (hdb : (x == ("__debug__" : Str)) = false := by decide)
    (hall : (backToKw pos (keywordEach (kw :: kws) X.env)).all (·.1.isSome) = true := by rfl) (hks : (backToKw pos (keywordEach (kw :: kws) X.env)).filterMap (·.1) = ks := by rfl)
    (hpl : ((backTo pos (starEach [] X.env)).any (·.1) || (backToKw pos (keywordEach (kw :: kws) X.env)).any (·.1.isNone)) = false := by rfl) : GEx X ρ M (.Call (.Name x p) [] (kw :: kws) pos) Q Ex := ⟨fun B F' H σ Q' W tk Wd0 S' s sx => by
  intro pins st I
  refine wpAny_Call_Name_kw (ld_glob I hg hm ?_ hdb)
  have z := h B F' H σ (fun vs H1 => vs.length = ks.length ∧ spGX T (g vs) H1 Q' (fun cls d H' => W cls d σ H')) Wd0 S' fun rs M1 vs F1 H1 hx W1 s1 vx => by
    obtain ⟨hl, Ma, Mr, hp, hs⟩ := hx
    have hl' : vs.length = ks.length := (Paired.length vx).trans hl
    exact ⟨hl', toSpX W1 hp (hb.rel hl' vx) (pMono s1 S') hs (s.mono s1) (sx.mono s1)⟩
  refine PySem.W.callWith_KW0 (h₀ := X.base) I.ok.mod.kin hk hall (thn (z pos pins st I) fun us s1 hh => ?_) hpl
  obtain ⟨vs, H1, I1, r, hl, q⟩ := hh
  refine ⟨I1.kIn, ?_⟩
  rw [hks]
  have hl' : us.length = ks.length := r.length.symm.trans hl
  exact runGS (args := ⟨[], ks.zip us⟩) F tk hgd hr (hb.to s1 us I1.kIn hl') I1 (hb.rel hl r) q⟩
end
/-- THE RULE for a def that may raise -/
abbrev bodyXx (P : Program) (w : World) (K : PySem.W.Frag) (mg : Str → Option Value) (base : Heap) (N : List Str) (qual : Str) (st : Stmt) (f : Addr) (cdv : Value) (A : Around) (outer : List Env) (s : Shared) (H : Hp) (E : XK) : Cx :=
  cxOf (CX P w) P w K mg base N qual (defScope st) f cdv A outer s H E
section
variable {P : Program} {w : World} {K : PySem.W.Frag} {mg : Str → Option Value} {base : Heap}
theorem fnGS {x qual : Str} {st : Stmt} {f : Addr} {fd : FuncData} {N ps : List Str} {k : Nat} {S : Around → List Env → Shared → Hp → GSpecX} (F : Fun K x qual st f fd) (Sc : FnScope N ps (defScope st)) (len : ∀ A outer s H rs M Kk Ke, S A outer s H rs M Kk Ke → rs.length = ps.length)
    (body : ∀ (cdv : Value) (A : Around) (outer : List Env) (s : Shared) (H : Hp) (E : XK), A.guards = some [] → Room k (A.deeper (envOfC qual (defScope st) s.heap.objs.size f cdv)) → Env0 P w K mg base A outer s H →
      ∀ rs M Kk Ke, S A outer s H rs M Kk Ke → GBx (bodyXx P w K mg base N qual st f cdv A outer s H E) (rs ++ List.replicate (N.length - rs.length) .un) M (defBody st) (bodyD Kk) (fun _ C p M' => Ke C p M')) :
    FnGS P w K mg base (k + 1) f fd ps S := by
  obtain ⟨oc, od, kV, doc, pm, an, cdv, ct, osl, rfl, lk, hcd⟩ := F.ex
  refine ⟨len, fun A outer s H args us vs Q E hgd hr e0 hb r hsp => ?_⟩
  obtain ⟨F', rs, M', Kk, Ke, hv, W, hS, sat, satx⟩ := hsp
  have hl : vs.length = ps.length := by
    rw [Paired.length hv]
    exact len _ _ _ _ _ _ _ _ hS
  have old : ∀ b o, base.get? b = some o → s.heap.get? b = some o := fun b o q => (e0.bs b o q).1
  have KX : K.In s.heap := e0.mod.kin.keeps old
  have lim : s.heap.NoLimit := e0.mod.nolimit.keeps old
  have hkd : ∀ y ∈ ps.zip us, (defScope st).names.lookup y.1 = some .local ∨
      ((defScope st).names.lookup y.1 = some .cell ∧ ((cellsFrom (s.heap.objs.size + 1) (defScope st).names []).lookup y.1).isSome = true) := by
    rintro ⟨n, v⟩ hy
    rcases Sc.par n (List.of_mem_zip hy).1 with q | q
    · left
      exact q
    · right
      exact ⟨q, PySem.W.cellsFrom_some _ _ _ (.inl q)⟩
  refine codeAny_call_function hr.depth (KX _ _ lk) rfl Sc.co Sc.gen rfl (PySem.W.codeRec_of KX hcd) (hb _ _ _ _ ?_)
  refine wpAny_newFunctionEnv_cells Sc.kind hkd fun env he s1 hx => ?_
  subst he
  refine ⟨lim.keeps hx.toInCall.keep, codeAny_func ?_⟩
  have I := inv_start (CX := CX P w) (E := E) Sc hr.hd e0 hl r hx
  have tk : Takes (bodyXx P w K mg base N qual st f cdv A outer s H E) (fun cls d _ H' => E cls d H') := takes_of rfl rfl rfl rfl
  have hp : PassesOwn (model P w) (bodyXx P w K mg base N qual st f cdv A outer s H E).A (bodyXx P w K mg base N qual st f cdv A outer s H E).env (bodyXx P w K mg base N qual st f cdv A outer s H E).xe := passes_of (X := bodyXx P w K mg base N qual st f cdv A outer s H E) rfl
  have G0 := body cdv A outer s H E hgd (hr.deeper _) e0 rs M' Kk Ke hS
  have satS : SatS (here F' H M') F' (bodyD Kk) { nx := fun _ H' => Q .non H', rt := Q } := by
    refine ⟨?_, sat, fun _ _ _ _ _ q => False.elim q, fun _ _ _ _ _ q => False.elim q⟩
    intro ρ M2 σ F2 H2 q W2 s2 _
    exact sat _ M2 .non F2 H2 q W2 s2 .non
  have satX : SatX (here F' H M') F' (fun _ C p M' => Ke C p M') (fun cls d _ H' => E cls d H') := fun ρ C p M d σ F2 H2 q W2 s2 x _ => satx C p M d F2 H2 q W2 s2 x
  have ran := G0.run _ F' H (L2.start N vs) _ _ tk hp W (paired_start hv) satS satX [] s1 I
  have fin : ∀ {s' : Shared} {σ' : L2.St} {H' : Hp} {v : V} {u : Value}, Inv (bodyXx P w K mg base N qual st f cdv A outer s H E) [] σ' H' s' → RelV v u → Q v H' → CE outer P w H s Q u s' := by
    intro s' σ' H' v u J rv q
    exact ⟨v, H', J.os, J.bare, J.base, J.hok, rv, q⟩
  refine wpAny_mono ran (fun fl s' hs => ?_) fun e s' hs => hs
  match fl, hs with
  | .ret u, hs =>
    obtain ⟨v, σ', H', J, rv, q⟩ := hs
    exact fin J rv q
  | .next, hs =>
    obtain ⟨σ', H', J, q⟩ := hs
    exact fin (v := V.non) (u := Value.none) J rfl q
  | .brk, hs =>
    obtain ⟨_, _, _, q⟩ := hs
    exact False.elim q
  | .cont, hs =>
    obtain ⟨_, _, _, q⟩ := hs
    exact False.elim q
end
end G

namespace PySem
namespace IvX
open PySem.W PySem.Calls PyProof.Rows
section
variable {prog : Program} {w : World} {A : Around} {R : Result → Shared → Prop} {s : Shared} {K : Frag} {mg : Str → Option Value} {x field : Str} {C : Addr}
theorem iv_made (T : IvT prog K mg x field C) {mb : Str → Option Value} {v : Value} (X : K.In s.heap) (hlim : s.heap.NoLimit) (hG : s.heap.Ns mainGlobals mg) (hB : s.heap.Ns builtinsNs mb) (hbb : ∀ x : Str, x ≠ "__name__" → mb x = bootBuiltins x) (hroom : A.depth + 1 < recursionLimit)
    (hq : ∀ h' tk e d, IvMade s.heap h' e C d field v → R (.ok (.ret (.ref e))) { s with heap := h', toks := tk }) :
    codeAny (model prog w) A (.call (.ref C) ⟨[v], []⟩) R s := by
  obtain ⟨B, newId, initId, bmB, EB, SF, KX, xI, xO, _, _⟩ := T.base
  obtain ⟨fI, cc, cda, oc, od, doc, pm, dV, kV, an, ct, ccl, osl, cld, csl, qual, par, params, sc, m, j, p0, p1, p2, p3, p4, p5, q1, q2, q3, q4, ar, cl3, cdd, ccs, vs, file, tf, iC, tI, lk, _⟩ := T.ini
  obtain ⟨hp, g, dr, tk, os⟩ := s
  obtain ⟨nm, N, q, bs, bm, hdct, sn, sub, ab, col, dd, k0, k1, k2, k3, k5, hC, hbm⟩ := excInit_of X xI
  have k : ∀ b o, hp.get? b = some o → ((hp.push (kdv_tup [v])).push (excObj C hp.objs.size none .none)).get? b = some o := fun b o e => Heap.get?_push_of_some _ (Heap.get?_push_of_some _ e)
  have hget : ((hp.push (kdv_tup [v])).push (excObj C hp.objs.size none .none)).get? (hp.objs.size + 1) = some (excObj C hp.objs.size none .none) := by heap_get
  have hnx : K.lookup (hp.objs.size + 1) = none := by
    cases e : K.lookup (hp.objs.size + 1) with
    | none => rfl
    | some o =>
      have z : hp.get? (hp.objs.size + 1) = some o := X _ _ e
      exact absurd (Nat.lt_of_succ_lt (Heap.lt_size z)) (Nat.lt_irrefl _)
  refine HandSPX.call_own EB hbm hC (looks_findIn X iC) (fun self => PySem.W.bind_fn X self tI) (one_size v) ?_
  refine iv_init (s := ⟨(hp.push (kdv_tup [v])).push (excObj C hp.objs.size none .none), g, dr, tk, os⟩) T iC (X.keeps k) (hlim.keeps k) (hG.keeps k) (hB.keeps k) hbb hget hnx ?_ fun h' tk' dx t1 ⟨k', hx, dn, dne, hns⟩ => ?_
  · show A.depth + 1 < recursionLimit
    exact hroom
  · have old : ∀ b o, hp.get? b = some o → h'.get? b = some o := fun b o e => k' b o (Nat.ne_of_lt (Nat.lt_succ_of_lt (Heap.lt_size e))) (k b o e)
    have z : hp.objs.size + 1 + 1 ≤ dx := by
      first
        | (simpa only [Heap.size_push] using dn)
        | exact dn
        | (have q := dn; rw [Heap.size_push, Heap.size_push] at q; exact q)
    exact ⟨rfl, hq h' tk' (hp.objs.size + 1) dx ⟨old, Nat.le_succ _, ⟨_, _, hx, rfl, rfl, rfl, rfl⟩, Nat.le_trans (Nat.le_trans (Nat.le_succ _) (Nat.le_succ _)) z, dne, hns⟩⟩
end
end IvX
end PySem
namespace G
open PySem PySem.Spec PyProof.Rows L2
theorem relO_one {v : V} {v' : Value} (r : RelV v v') (field f : Str) : RelO (List.lookup f [(field, v)]) (if f = field then some v' else none) := by
  by_cases hw : f = field
  · subst hw
    rw [if_pos rfl]
    have q : List.lookup f [(f, v)] = some v := by simp [List.lookup]
    rw [q]
    exact r
  · rw [if_neg hw]
    have qw : (f == field) = false := by simpa using hw
    have q2 : List.lookup f [(field, v)] = none := by simp [List.lookup, qw]
    rw [q2]
    trivial
section
variable {X : Cx} {C : Addr} {x field : Str}
def tMkIv (field : Str) (C : Addr) (ta : TA) : L2.St → Hp → XK → Prop := fun σ H Q => ta σ H fun vs H1 => ∃ v, vs = [v] ∧ ∀ d, H1 d = none → Q (.ref C) (some d) (upd H1 d (.xd [(field, v)]))
theorem pmk_iv {a : Expr} {ta : TA} {p pos : Pos} {k : Nat} (T : PySem.IvX.IvT X.prog X.K X.mg x field C) (hr : Room k X.A) (ha : PA X [a] ta) (hg : Gl X x) (hdb : (x == ("__debug__" : Str)) = false)
    (he : starEach (a :: []) X.env = (false, eval a X.env) :: starEach [] X.env) (hpl : (backTo pos (starEach [] X.env)).any (·.1) = false) :
    PMk X (.Call (.Name x p) [a] [] pos) (tMkIv field C ta) := by
  intro pins s σ H Q I h
  refine wpAny_Call_Name_kw (ld_glob I hg T.gC ?_ hdb)
  refine PySem.W.callWith_K (h₀ := X.base) I.ok.mod.kin T.kC (thn (ha.run pos pins s σ H _ I h) fun us s1 hh => ?_) he hpl
  obtain ⟨vs, H1, I1, r1, v, ev, q1⟩ := hh
  subst ev
  refine ⟨I1.kIn, ?_⟩
  cases r1 with
  | cons rv rn =>
    rename_i v' us'
    cases rn
    show wpAny _ _ (call (.ref C) [v']) _ _ _
    have hlim := I1.nolimit
    obtain ⟨mb, hB, hbb⟩ := I1.ok.mod.blt
    have bk := Inv.bk I1
    have hG := I1.ok.mod.glob.keeps bk
    have hB := hB.keeps bk
    have KI := I1.kIn
    obtain ⟨hp, g, dr, tk, os⟩ := s1
    refine wpAny_call (PySem.IvX.iv_made T KI hlim hG hB hbb (by have := hr.dp; omega) fun h' tk' e d M => ?_)
    show MkP X pins σ Q (.ref e) ⟨h', g, dr, tk', os⟩
    obtain ⟨oe, fv, hoe, hc, hd, hdat, h1⟩ := M.obj
    have hns := M.ns
    obtain ⟨G', g1, g2⟩ := restrict h' fun b => decide (b ≠ e)
    have gk : ∀ b, b ≠ e → G'.get? b = h'.get? b := fun b hb => g1 b (decide_eq_true hb)
    have ge : G'.get? e = none := g2 e (by simp)
    have old : ∀ b o, hp.get? b = some o → G'.get? b = some o := fun b o q => (gk b (Nat.ne_of_lt (Nat.lt_of_lt_of_le (Heap.lt_size q) M.new))).trans (M.keep b o q)
    have ob : ObjOk X.prog X.w (upd H1 d (.xd [(field, v)])) G' d (.xd [(field, v)]) :=
      ⟨_, hns.at (fun o q => (gk d M.dne).trans q), fun f => relO_one rv field f⟩
    have J : Inv X pins σ (upd H1 d (.xd [(field, v)])) ⟨G', g, dr, tk', os⟩ := I1.laid (t' := tk') old M.dbig ob
    refine ⟨e, oe, fv, ⟨G', g, dr, tk', os⟩, _, .ref C, some d, rfl, J, fun b o q => ?_, ge, hoe, ⟨hc, hd⟩, hdat, h1, ?_, rfl, I1.bare, raises_own T.exC T.tyC, q1 d (I1.hok.fresh M.dbig)⟩
    · by_cases hb : b = e
      · have q' : G'.get? b = some o := q
        rw [hb, ge] at q'; cases q'
      · exact (gk b hb).symm.trans q
    · rw [upd_ne (Ne.symm M.dne)]
      exact I1.hok.fresh M.new
variable {ρ : List SD} {M : Mem} {D : GD} {Ex : XKn} {pos : Pos} {e : Expr}
/-- raise InvalidX(e) -/
theorem sxraise {p pos2 : Pos} {k : Nat} (hc : X.calm = true) (T : PySem.IvX.IvT X.prog X.K X.mg x field C) (hr : Room k X.A) (h : GE X ρ M e fun r M1 => Ex ρ C (some [(field, r)]) M1) (hg : Gl X x := by rfl) (hdb : (x == ("__debug__" : Str)) = false := by decide)
    (he : starEach (e :: []) X.env = (false, eval e X.env) :: starEach [] X.env := by rfl) (hpl : (backTo pos (starEach [] X.env)).any (·.1) = false := by rfl) :
    GSx X ρ M (.Raise (some (.Call (.Name x p) [e] [] pos)) none pos2) D Ex := ⟨fun B F H σ D' W tk hp Wd0 S s sx => by
  refine wS_of (ps_raise hc tk (pmk_iv T hr (pa_cons pE pa_nil he) hg hdb he hpl)) (h B F H σ _ Wd0 S fun r M1 v F1 H1 q W1 s1 vv => ⟨v, rfl, fun d hd => ?_⟩)
  obtain ⟨W2, s2⟩ := W1.froz (o := .xd [(field, v)]) hd
  exact sx ρ C _ M1 (some d) σ _ _ q W2 (s1.trans s2) ⟨_, upd_same, .cons ⟨rfl, vv.mono s2⟩ .nil⟩ (pMono (s1.trans s2) S)⟩
end
end G

namespace G
open PySem PySem.Spec PyProof.Rows L2
/-! ### objects -/
theorem Wd.writeG {B : Bs} {F H : Hp} {M : Mem} {p : Addr} {mo mo' : MO} {u : HO} (W : Wd B F H ((p, mo) :: M)) (hx : MOk F (upd H p u) (p, mo')) : Wd B F (upd H p u) ((p, mo') :: M) := by
  obtain ⟨f1, f2⟩ := W.mem (p, mo) List.mem_cons_self
  have f1 : F p = none := f1
  have nd : p ∉ M.map (·.1) ∧ (M.map (·.1)).Nodup := by
    have h := W.nd
    rw [List.map_cons] at h
    exact List.nodup_cons.mp h
  have nw : B.H0 p = none ∨ B.O0 p := W.new (p, mo) List.mem_cons_self
  refine ⟨fun a u e => ?_, W.f0, W.fnew, fun a u e n => ?_, fun a e => ?_, fun q hq => ?_, ?_, fun q hq => ?_⟩
  · rw [upd_ne (ne_of_none e f1)]
    exact W.fh _ _ e
  · have hne : a ≠ p := fun z => by
      subst z
      rcases nw with q | q
      · rw [e] at q
        cases q
      · exact n q
    rw [upd_ne hne]
    exact W.keep a u e n
  · by_cases z : a = p
    · rw [z, upd_same] at e
      cases e
    · rw [upd_ne z] at e
      exact W.dom a e
  · rcases List.mem_cons.mp hq with z | z
    · rw [z]
      exact ⟨f1, hx⟩
    · obtain ⟨g1, g2⟩ := W.mem q (List.mem_cons_of_mem _ z)
      refine ⟨g1, g2.mono (fun _ _ h => h) fun u e => ?_⟩
      rw [upd_ne]
      · exact e
      · intro y
        exact nd.1 (List.mem_map.mpr ⟨q, z, y⟩)
  · rw [List.map_cons]
    exact List.nodup_cons.mpr nd
  · rcases List.mem_cons.mp hq with z | z
    · rw [z]
      exact nw
    · exact W.new q (List.mem_cons_of_mem _ z)
theorem Wd.newG {B : Bs} {F H : Hp} {M : Mem} {p : Addr} {mo : MO} {u : HO} (W : Wd B F H M) (h : H p = none) (hx : MOk F (upd H p u) (p, mo)) : Wd B F (upd H p u) ((p, mo) :: M) := by
  obtain ⟨f1, f2, f3⟩ := W.fresh h
  have W2 := W.other (o := u) h
  refine ⟨W2.fh, W2.f0, W2.fnew, W2.keep, W2.dom, fun q hq => ?_, ?_, fun q hq => ?_⟩
  · rcases List.mem_cons.mp hq with z | z
    · rw [z]
      exact ⟨f1, hx⟩
    · exact W2.mem q z
  · rw [List.map_cons]
    exact List.nodup_cons.mpr ⟨f3, W.nd⟩
  · rcases List.mem_cons.mp hq with z | z
    · rw [z]
      exact .inl f2
    · exact W2.new q z
def putG (f : Str) (r : SD) : List (Str × SD) → List (Str × SD)
  | [] => [(f, r)]
  | (g, x) :: fs => if g = f then (g, r) :: fs else (g, x) :: putG f r fs
theorem putG_rel {F : Hp} {f : Str} {v : V} {r : SD} (h : VOk F v r) : ∀ {vs : List (Str × V)} {fs : List (Str × SD)}, Paired (FEnt F) vs fs → Paired (FEnt F) (putF f v vs) (putG f r fs)
  | _, _, .nil => .cons ⟨rfl, h⟩ .nil
  | (g, x) :: vs, (g', y) :: fs, .cons ⟨e, q⟩ t => by
    have e : g = g' := e
    subst e
    show Paired (FEnt F) (if g = f then (g, v) :: vs else (g, x) :: putF f v vs) (if g = f then (g, r) :: fs else (g, y) :: putG f r fs)
    by_cases z : g = f
    · rw [if_pos z, if_pos z]
      exact .cons ⟨rfl, h⟩ t
    · rw [if_neg z, if_neg z]
      exact .cons ⟨rfl, q⟩ (putG_rel h t)
theorem look_rel {F : Hp} {f : Str} : ∀ {vs : List (Str × V)} {fs : List (Str × SD)}, Paired (FEnt F) vs fs → (fs.lookup f = none → vs.lookup f = none) ∧ ∀ r, fs.lookup f = some r → ∃ v, vs.lookup f = some v ∧ VOk F v r
  | _, _, .nil => ⟨fun _ => rfl, fun r h => nomatch h⟩
  | (g, x) :: vs, (g', y) :: fs, .cons ⟨e, q⟩ t => by
    have e : g = g' := e
    subst e
    obtain ⟨i1, i2⟩ := look_rel (f := f) t
    cases hb : (f == g)
    · simp only [List.lookup, hb]
      exact ⟨i1, i2⟩
    · have e1 : List.lookup f ((g, y) :: fs) = some y := by simp [List.lookup, hb]
      have e2 : List.lookup f ((g, x) :: vs) = some x := by simp [List.lookup, hb]
      rw [e1, e2]
      exact ⟨fun h => (nomatch h), fun r h => ⟨x, rfl, by rw [← Option.some.inj h]; exact q⟩⟩
section
variable {X : Cx} {ρ : List SD} {M : Mem} {Q : Kn} {QT : Bool → Mem → Prop} {pos : Pos} {a e o : Expr} {es : List Expr} {D : GD} {C : Addr} {f m : Str} {k : Nat} {S : GSpec} {ps : List Str}
/-- o.f -/
theorem gfld {p : Pos} (c : Cls X.K C) (n : NoAttr X.K C f) (h : GE X ρ M o fun x M1 => ∃ p fs r, x = .rf (.ref p) ∧ (p, MO.obj C fs) ∈ M1 ∧ fs.lookup f = some r ∧ Q r M1)
    (hb : attributeBase o f X.env (eval o X.env) = eval o X.env := by rfl) : GE X ρ M (.Attribute o f p) Q := .mk fun B F H σ Q' W S s => by
  refine wE_of (pe_fld pE hb) (h.run B F H σ _ W S fun x M1 v F1 H1 hx W1 s1 vx => ?_)
  obtain ⟨p, fs, r, rfl, hm, hl, q⟩ := hx
  obtain rfl : v = .ref p := vx
  obtain ⟨_, dx, vs, h1, h2⟩ := W1.mem _ hm
  obtain ⟨u, h3, h4⟩ := (look_rel h2).2 r hl
  exact ⟨p, C, dx, vs, u, rfl, h1, c, n, h3, s _ _ _ F1 _ q W1 s1 h4⟩
/-- o.f = value -/
theorem sfld {p : Pos} {value : Expr} (c : Cls X.K C) (n : NoAttr X.K C f) (h : GE X ρ M value fun y M1 => y.isV = true ∧ GE X ρ M1 o fun x M2 => ∃ p fs Ma Mb, x = .rf (.ref p) ∧ M2 = Ma ++ (p, .obj C fs) :: Mb ∧ fs.length < 900 ∧ D.nx ρ (Ma ++ (p, .obj C (putG f y fs)) :: Mb))
    (hs : swapsWith value (some (.Attribute o f p)) pos.line X.env = pure false := by rfl) : GS X ρ M (.Assign [.Attribute o f p] value pos) D := .mk fun B F H σ D' W S s => by
  refine wS_of (ps_fld pE pE hs) (h.run B F H σ _ W S fun y M1 w F1 H1 hy W1 s1 wy => ?_)
  refine hy.2.run B F1 H1 σ _ W1 (pMono s1 S) fun x M2 v F2 H2 hx W2 s2 vx => ?_
  obtain ⟨p, fs, Ma, Mb, rfl, rfl, hl, q⟩ := hx
  obtain rfl : v = .ref p := vx
  obtain ⟨_, dx, vs, h1, h2⟩ := W2.mem (p, .obj C fs) (by simp)
  have W3 := (W2.perm List.perm_middle).writeG (u := .ins C dx (putF f w vs)) (mo' := .obj C (putG f y fs)) ⟨dx, _, upd_same, putG_rel (SOk.mono s2 wy) h2⟩
  exact ⟨p, C, dx, vs, rfl, h1, c, n, by rw [Paired.length h2]; omega, s.nx _ _ _ F2 _ q (W3.perm List.perm_middle.symm) (s1.trans s2) (pMono (s1.trans s2) S)⟩
/-- a method, with what it promises -/
structure MCal (P : Program) (w : World) (K : PySem.W.Frag) (mg : Str → Option Value) (base : Heap) (k : Nat) (C : Addr) (m : Str) (ps : List Str) (S : GSpec) : Prop where
  ex : ∃ f fd, Meth K C m f ∧ Binds K fd ps [] ∧ FnG P w K mg base k f fd ps S
theorem MCal.mono {P : Program} {w : World} {K : PySem.W.Frag} {mg : Str → Option Value} {base : Heap} {j k : Nat} (c : MCal P w K mg base j C m ps S) (h : j ≤ k) : MCal P w K mg base k C m ps S := by
  obtain ⟨f, fd, h1, h2, h3⟩ := c.ex
  exact ⟨f, fd, h1, h2, h3.mono h⟩
theorem gmeth {apos : Pos} {pl : Sem Bool} (c : Cls X.K C) (cm : MCal X.prog X.w X.K X.mg X.base k C m ps S) (hgd : X.A.guards = some []) (hr : Room k X.A)
    (h : GE X ρ M o fun x M1 => ∃ p fs, x = .rf (.ref p) ∧ (p, MO.obj C fs) ∈ M1 ∧ fs.lookup m = none ∧ GA X ρ M1 (e :: es) fun rs M2 => ∃ Ma Mr, M2.Perm (Ma ++ Mr) ∧ S (x :: rs) Ma fun r M' => Q r (M' ++ Mr))
    (hst : starEach (e :: es) X.env = (false, eval e X.env) :: starEach es X.env := by rfl) (hpl : (backTo pos (starEach es X.env)).any (·.1) = false := by rfl)
    (ht : eval (.Call (.Attribute o m apos) (e :: es) [] pos) X.env = (do
      let ov ← eval o X.env
      standAt apos.atName
      let (f, first) ← holding [ov] (getMethod ov m pl)
      callWith pos f first (backTo pos (starEach (e :: es) X.env)) (backToKw pos (keywordEach [] X.env))) := by rfl) : GE X ρ M (.Call (.Attribute o m apos) (e :: es) [] pos) Q := .mk fun B F H σ Q' W Sg s => by
  obtain ⟨f, fd, hm, hb, Fn⟩ := cm.ex
  refine wE_of (t := fun σ H Q => wE X o σ H fun x H1 => ∃ p dx vs, x = .ref p ∧ H1 p = some (.ins C dx vs) ∧ vs.lookup m = none ∧ wA X (e :: es) σ H1 fun ws H2 => spG S (x :: ws) H2 Q E0) ⟨fun pins s σ H Q I h => ?_⟩ (h.run B F H σ _ W Sg fun x M1 v F1 H1 hx W1 s1 vx => ?_)
  · refine PySem.W.methodCall_KW (pl := pl) (thn (pE.run pins s σ H _ I h) fun u s1 ⟨x, H1, I1, rx, p, dx, vs, ex, ea, l, q⟩ => ?_) ht
    subst ex
    obtain rfl : u = Value.ref p := rx
    refine getmeth_ok I1 ea c hm l ?_
    refine PySem.W.callWith_K (first := [.ref p]) (h₀ := X.base) I.ok.mod.kin hm.kp (thn (pA.run pos pins s1 σ H1 _ I1 q) fun us s2 ⟨ws, H2, I2, r, q2⟩ => ⟨I2.kIn, ?_⟩) hst hpl
    have r2 : Vals (V.ref p :: ws) (Value.ref p :: us) := .cons rfl r
    have hl := (r2.length).symm.trans (spG_len Fn q2)
    exact runG (us := .ref p :: us) Fn hgd hr (by simpa using hb s2 (.ref p :: us) I2.kIn (by simpa using hl)) I2 r2 q2
  · obtain ⟨p, fs, rfl, hm2, hl, hx⟩ := hx
    obtain rfl : v = .ref p := vx
    obtain ⟨_, dx, vs, h1, h2⟩ := W1.mem _ hm2
    refine ⟨p, dx, vs, rfl, h1, (look_rel h2).1 hl, hx.run B F1 H1 σ _ W1 (pMono s1 Sg) fun rs M2 ws F2 H2 hy W2 s2 vy => ?_⟩
    obtain ⟨Ma, Mr, hp, hS⟩ := hy
    exact toSp W2 hp (.cons (show VOk F2 (V.ref p) (.rf (.ref p)) from rfl) vy) hS (s.mono (s1.trans s2))
end
end G

/-! ### try; what is known of a caught exception -/
namespace G
open PySem PySem.Spec PyProof.Rows L2
/-- an exception that was caught and kept: its class, and what it carries -/
def exSem (C : Addr) (p : XPay) : SemP where
  φ := fun F v => ∃ a d, v = .ref a ∧ F a = some (exk a (.ref C) d) ∧ XdOk F d p
  mono := fun e ⟨a, d, h1, h2, h3⟩ => ⟨a, d, h1, e _ _ h2, h3.mono e⟩
section
variable {X : Cx} {ρ : List SD} {M : Mem} {Q : Kn} {QT : Bool → Mem → Prop} {D : GD} {Ex : XKn} {pos : Pos} {a b e : Expr}
/-- try: ..; except T as n: err = n -/
theorem sxtryH {tE : Expr} {test : Value → Bool → Prop} {n err : Str} (i j : Nat) {body : List Stmt} {p1 p2 p3 pos' : Pos} (hs : X.stack = X.env :: X.outer) (hf : X.env.frame = some X.env.locals) (hex : X.ex = []) (hN : X.N.Nodup)
    (hi : X.N[i]? = some n) (hln : X.env.kindOf n = some .local) (hj : X.N[j]? = some err) (hx : Loc X.env.scope err) (hjf : X.fn err = true ∨ X.env.scope.names.lookup err = some .local) (hvn : Vis X.env.scope n) (hd : (n == ("__debug__" : Str)) = false) (hcd : (n == ("__classdict__" : Str)) = false) (hc : HTest X tE test)
    (hb : ∀ pn xe, GBx (X.tr pn xe) ρ M body D (fun ρ' C p M' => ∃ b, test (.ref C) b ∧ (b = true → D.nx (((ρ'.set i .un).set j (.sm (exSem C p))).set i .un) M') ∧ (b = false → Ex ρ' C p M'))) :
    GSx X ρ M (.Try body [.ExceptHandler (some tE) (some n) [.Assign [.Name err p1] (.Name n p2) p3] pos'] [] [] pos) D Ex := ⟨fun B F H σ D' W tk hp Wd0 S s sx => by
  have hh := handle_cons (X := X) (pos' := pos') (test := test) (ts := fun a cls d D σ H => σ[i]? = some (some (.ref a)) ∧ D.nx (σ.set j (some (.ref a))) H) hs hf hex hN hi hln hc (b₀ := .Assign [.Name err p1] (.Name n p2) p3) (suite := []) (fun a oe cls d pn hz hv => ⟨fun pins st σ H D I ⟨h1, h2⟩ =>
    (pss_one (ps_set (X := X.suite a ((a, oe) :: pn)) hN hj hx (pe_var hi hvn hd hcd) rfl hjf)).run pins st σ H D I ⟨_, h1, h2⟩⟩) (handle_nil hs hf tk)
  refine wS_of (ps_try_kept (tb := fun W2 D2 σ2 H2 => ∀ pn xe, Takes (X.tr pn xe) W2 → PassesOwn (model X.prog X.w) X.A X.env xe → wB (X.tr pn xe) body D2 σ2 H2) hs hf hh fun W2 pn xe tk2 hp2 => ⟨fun pins st σ2 H2 D2 I h => h pn xe tk2 hp2 pins st I⟩) fun pn xe tk2 hp2 => ?_
  refine (hb pn xe).run B F H σ D' _ tk2 hp2 Wd0 S s fun ρ' C p M' d σ' F' H' ⟨bb, ht, hy, hn⟩ W' s' x' S' => ⟨bb, ht, fun eb ex ha hil => ⟨List.getElem?_set_self hil, ?_⟩, fun eb => sx ρ' C p M' d σ' F' H' (hn eb) W' s' x' S'⟩
  · obtain ⟨W2, s2⟩ := W'.froz (o := exk ex (.ref C) d) ha
    refine s.nx _ _ _ _ _ (hy eb) W2 (s'.trans s2) ?_
    exact pset SOk.un i (pset (show SOk _ (some (V.ref ex)) (.sm (exSem C p)) from ⟨ex, d, rfl, upd_same, x'.mono s2⟩) j (pset SOk.un i (pMono s2 S')))⟩
/-! what is asked of it -/
theorem rIsNx_ {p : SemP} (hr : ∀ F v, p.φ F v → ∃ a, v = .ref a) (q : Q (.pu (.bool false)) M) : RR X (fun x y H Q => y = .non ∧ Q (.bl (decide (x = .non))) H) (.sm p) (.pu .none) M Q := fun B F H v w Q' W hv hw s => by
  have hw : Dt F w .none := hw
  cases hw
  obtain ⟨a, rfl⟩ := hr F v hv
  refine ⟨rfl, s _ M _ F H q W (Same.refl F) ?_⟩
  show Dt F _ _
  rw [decide_eq_false (fun z => nomatch z)]
  exact .bl _
theorem ex_ref {C : Addr} {p : XPay} : ∀ F v, (exSem C p).φ F v → ∃ a, v = .ref a := fun F v ⟨a, d, h, _⟩ => ⟨a, h⟩
theorem tisNx {j : Nat} {p : Pos} (h : GE X ρ M a fun x M1 => ∃ C pay, x = .sm (exSem C pay) ∧ QT false M1) : GT X ρ M (.Compare a [.Is] [.Constant .none j p] pos) QT := gtC op_isN (nomark _) (h.mono fun x M1 ⟨C, pay, e, q⟩ => e ▸ gnon (rIsNx_ ex_ref ⟨_, rfl, q⟩))
theorem gisNx {j : Nat} {p : Pos} (h : GE X ρ M a fun x M1 => ∃ C pay, x = .sm (exSem C pay) ∧ Q (.pu (.bool false)) M1) : GE X ρ M (.Compare a [.Is] [.Constant .none j p] pos) Q := geC op_isN (nomark _) (h.mono fun x M1 ⟨C, pay, e, q⟩ => e ▸ gnon (rIsNx_ ex_ref q))
/-- e.f -/
theorem pe_exfld {f : Str} {p : Pos} {te : TE} (he : PE X e te) (hb : attributeBase e f X.env (eval e X.env) = eval e X.env) : PE X (.Attribute e f p) (fun σ H Q => te σ H fun x H1 => ∃ a C dd vs v, x = .ref a ∧ ExcC X.K C ∧ PySem.W.findIn X.K (.ref C) f = some none ∧ H1 a = some (exk a (.ref C) (some dd)) ∧ H1 dd = some (.xd vs) ∧ List.lookup f vs = some v ∧ Q v H1) := by
  refine ⟨fun pins s σ H Q I h => ?_⟩
  refine attr_of hb (thn (he.run pins s σ H _ I h) fun u s1 hh => ?_)
  obtain ⟨x, H1, I1, rx, a, C, dd, vs, v, ex, T, noN, ea, ed, hl, q⟩ := hh
  subst ex
  obtain rfl : u = Value.ref a := rx
  have ha : ObjOk X.prog X.w H1 s1.heap a (exk a (.ref C) (some dd)) := I1.hok a _ ea
  obtain ⟨⟨oe, fv, hoe, hc, hd, hdat⟩, _⟩ := ha
  have hx : ObjOk X.prog X.w H1 s1.heap dd (.xd vs) := I1.hok dd _ ed
  obtain ⟨mA, hns, hr⟩ := hx
  obtain ⟨od, ho, hlk⟩ := lookIn_ns hns
  obtain ⟨u, hu, ru⟩ := RelO.some_of (v := v) (o := mA f) (by rw [← hl]; exact hr f)
  have J : PySem.W.InstAt s1.heap a oe C (some od) := ⟨hoe, hc, by unfold PySem.W.notCls; rw [hdat] <;> rfl, by rw [hd]; exact ho⟩
  exact HandSPX.exc_get I1.kIn J T.hg T.hk T.hs (PySem.W.findObj_own T.hd noN rfl (by rw [hlk, hu])) (handed_of ru) ⟨v, H1, I1.tok _, ru, q⟩
theorem gexfld {f : Str} {p : Pos} {C : Addr} (T : ExcC X.K C) (noN : PySem.W.findIn X.K (.ref C) f = some none) (h : GE X ρ M e fun x M1 => ∃ fs r, x = .sm (exSem C (some fs)) ∧ fs.lookup f = some r ∧ Q r M1)
    (hb : attributeBase e f X.env (eval e X.env) = eval e X.env := by rfl) : GE X ρ M (.Attribute e f p) Q := .mk fun B F H σ Q' W S s => by
  refine wE_of (pe_exfld pE hb) (h.run B F H σ _ W S fun x M1 v F1 H1 hx W1 s1 vx => ?_)
  obtain ⟨fs, r, rfl, hl, q⟩ := hx
  obtain ⟨a, d, rfl, h1, h2⟩ := vx
  cases d with
  | none => exact h2.elim
  | some dd =>
    obtain ⟨vs, h3, h4⟩ := h2
    obtain ⟨u, h5, h6⟩ := (look_rel h4).2 r hl
    exact ⟨a, C, dd, vs, u, rfl, T, noN, W1.fh _ _ h1, W1.fh _ _ h3, h5, s _ _ _ F1 _ q W1 s1 h6⟩
/-- isinstance(e, T) -/
def rIsx (K : PySem.W.Frag) : List V → Hp → VK → Prop := fun xs H Q => ∃ (a C : Addr) (d : Option Addr) (c : V) (cv : Value) (b : Bool), xs = [.ref a, c] ∧ ExcC K C ∧ (PySem.W.clsIn K C).isSome = true ∧ ClsV c cv ∧ H a = some (exk a (.ref C) d) ∧ (∀ dd, d = some dd → ∃ vs, H dd = some (.xd vs)) ∧ PySem.W.kitOne K (.ref C) cv = some b ∧ Q (.bl b) H
theorem call_isx : CallR X (.builtin "isinstance") (rIsx X.K) := by
  intro pins s σ H xs us Q I r h
  obtain ⟨a, C, d, c, cv, b, rfl, T, hcl, hc, ha, hd, hk, q⟩ := h
  obtain ⟨u1, u2, rfl, r1, r2⟩ := vals2 r
  obtain rfl : u1 = Value.ref a := r1
  have e2 : u2 = cv := ClsV.eq hc r2
  subst e2
  have hx : ObjOk X.prog X.w H s.heap a (exk a (.ref C) d) := I.hok a _ ha
  obtain ⟨⟨oe, fv, hoe, hcs, hdi, hdat⟩, _⟩ := hx
  obtain ⟨od, J⟩ : ∃ od, PySem.W.InstAt s.heap a oe C od := by
    cases d with
    | none => exact ⟨none, hoe, hcs, by unfold PySem.W.notCls; rw [hdat] <;> rfl, by rw [hdi]; trivial⟩
    | some dd =>
      obtain ⟨vs, hv⟩ := hd dd rfl
      have hy : ObjOk X.prog X.w H s.heap dd (.xd vs) := I.hok dd _ hv
      obtain ⟨mA, hns, _⟩ := hy
      obtain ⟨od, ho, _⟩ := lookIn_ns hns
      exact ⟨some od, hoe, hcs, by unfold PySem.W.notCls; rw [hdat] <;> rfl, by rw [hdi]; exact ho⟩
  exact PySem.W.kia_one (PySem.W.kitx_exc hcl T.hg T.hk T.hs T.ha T.hn T.ht T.hm) I.kIn J hk (fun z => by cases z) fun tk => ⟨.bl b, H, I.tok tk, rfl, q⟩
theorem gisx {p : Pos} (hm : X.mg "isinstance" = none) (h : GE X ρ M a fun x M1 => GE X ρ M1 b fun y M2 => ∃ C pay c cv k, x = .sm (exSem C pay) ∧ y = .rf c ∧ ClsV c cv ∧ ExcC X.K C ∧ (PySem.W.clsIn X.K C).isSome = true ∧ PySem.W.kitOne X.K (.ref C) cv = some k ∧ Q (.pu (.bool k)) M2) (hg : Gl X "isinstance" := by rfl) (he : starEach [a, b] X.env = [(false, eval a X.env), (false, eval b X.env)] := by rfl) (he2 : starEach [b] X.env = [(false, eval b X.env)] := by rfl) :
    GE X ρ M (.Call (.Name "isinstance" p) [a, b] [] pos) Q :=
  gcb call_isx hm PyProof.Rows.boot_isinstance (acons (h.mono fun x M1 h => acons (h.mono fun y M2 ⟨C, pay, c, cv, k, ex, ey, hc, T, hcl, hk, q⟩ => anil fun B F H vs Q' W hvs s => by
    subst ex ey
    obtain ⟨v, w, rfl, hv, hw⟩ := p2 hvs
    obtain rfl : w = c := hw
    obtain ⟨ea, d, rfl, h1, h2⟩ := hv
    refine ⟨ea, C, d, w, cv, k, rfl, T, hcl, hc, W.fh _ _ h1, fun dd ed => ?_, hk, s _ M2 _ F H q W (Same.refl F) (.bl k)⟩
    subst ed
    cases pay with
    | none => exact h2.elim
    | some fs =>
      obtain ⟨vs, h3, _⟩ := h2
      exact ⟨vs, W.fh _ _ h3⟩) he2) (by rw [he, he2])) hg (he := by rw [he, he2]) (hpl := by rw [he2]; rfl)
end
end G

/-! ### lambdas that are handed to a def -/
namespace G
open PySem PySem.Spec PyProof.Rows L2 LamX
/-- what a lambda without parameters does -/
abbrev LSpec := Mem → Kn → XKf → Prop
/-- from the state (s, H) on, whatever is not followed stays: then the lambda at f does as told; F is frozen -/
def LamAt (P : Program) (w : World) (K : PySem.W.Frag) (mg : Str → Option Value) (base : Heap) (k : Nat) (fr : List Addr) (s : Shared) (H : Hp) (f : Addr) (F : Hp) (Sa : LSpec) : Prop :=
  ∀ (A : Around) (outer : List Env) (s1 : Shared) (HZ : Hp) (Q : VK) (E : XK), A.guards = some [] → Room (k + 1) A → Env0 P w K mg base A outer s1 HZ → Un fr [] H HZ s.heap s1.heap →
    (∃ F1 M Kk Ke, Same F F1 ∧ Wd (here F1 HZ M) F1 HZ M ∧ Sa M Kk Ke ∧ Sat (here F1 HZ M) F1 Kk Q ∧ SatXf (here F1 HZ M) F1 Ke E) →
    PySem.W.FnAt f s1.heap ∧ codeAny (model P w) A (.call (.ref f) {}) (CR (CX P w) outer P w HZ s1 Q E) s1
def lamSem (P : Program) (w : World) (K : PySem.W.Frag) (mg : Str → Option Value) (base : Heap) (k : Nat) (fr : List Addr) (s : Shared) (H : Hp) (Sa : LSpec) : SemP where
  φ := fun F v => ∃ f, v = .ref f ∧ LamAt P w K mg base k fr s H f F Sa
  mono := fun e ⟨f, h1, h2⟩ => ⟨f, h1, fun A outer s1 HZ Q E g hr e0 un ⟨F1, M, Kk, Ke, sf, r⟩ => h2 A outer s1 HZ Q E g hr e0 un ⟨F1, M, Kk, Ke, e.trans sf, r⟩⟩
section
variable {X : Cx} {ρ : List SD} {M : Mem} {Q : Kn} {Ex : XKn} {pos : Pos} {e : Expr}
theorem lam_at {pins : List (Addr × Obj)} {σ : L2.St} {H F : Hp} {s : Shared} {f c' : Addr} {pm ctv : Value} {params : Arguments} {body : Expr} {scope : Scope} {k : Nat} {Sa : LSpec}
    (I : Inv X pins σ H s) (L : LamS X.env.scope scope) (hf : s.heap.get? f = some (PySem.W.kla_obj "<lambda>" (X.env.qual ++ "<lambda>") params body scope (cloFrom X.env.cells scope.names []) pm c' ctv)) (hfn : H f = none) (hfr : f ∉ frs X.stack)
    (hbind : bindArgs (PySem.W.kla_fn "<lambda>" (X.env.qual ++ "<lambda>") params body scope (cloFrom X.env.cells scope.names []) pm (.ref c') ctv) {} = pure []) (hF : F c' = some (CodeO c' (X.env.qual ++ "<lambda>"))) (S : Paired (SOk F) σ ρ)
    (hbody : ∀ (A : Around) (outer : List Env) (s1 : Shared) (HZ : Hp) (E : XK) M' Kk Ke, A.guards = some [] → Room k (A.deeper (lamEnv X scope s1.heap.objs.size f c')) → Sa M' Kk Ke → GEx (lamCx X A outer s1 HZ E scope f c') ρ M' body Kk (fun _ C p M'' => Ke C p M'')) :
    LamAt X.prog X.w X.K X.mg X.base k (frs X.stack) s H f F Sa := by
  intro A outer s1 HZ Q' E hgd hr e0 un hsp
  obtain ⟨F1, M', Kk, Ke, sf, Wd0, hS, sat, satx⟩ := hsp
  have of1 := un.keep f _ hf hfn hfr List.not_mem_nil
  refine ⟨⟨_, _, _, _, of1⟩, ?_⟩
  have hc : HZ c' = some (CodeO c' (X.env.qual ++ "<lambda>")) := Wd0.fh _ _ (sf _ _ hF)
  obtain ⟨⟨oc, vs, t, hoc, hdc, hvc⟩, _⟩ := e0.hok c' _ hc
  have old : ∀ b o, X.base.get? b = some o → s1.heap.get? b = some o := fun b o q => (e0.bs b o q).1
  have lim : s1.heap.NoLimit := e0.mod.nolimit.keeps old
  refine PySem.W.kla_callFunE hr.depth of1 rfl L.co L.gen rfl ⟨c', oc, vs, t, rfl, hoc, hdc, hvc⟩ ?_
  rw [hbind]
  refine wpAny_pure (wpAny_newFunctionEnv (fun y hy => (L.own y hy).2) (fun y hy => absurd hy List.not_mem_nil) (fun h₁ hns hsb => ⟨lim.fresh _ hsb, ?_⟩) L.kind)
  have kp : ∀ b o, s1.heap.get? b = some o → h₁.get? b = some o := fun b o e => hsb.extBut b o (Nat.ne_of_lt (Heap.lt_size e)) (Heap.get?_push_of_some _ e)
  have J := lam_start2 (c' := c') (E := E) (f := f) (tk := s1.toks + ([] : List (Str × Value)).length) I L e0 hr.hd un hns kp
  have tk : Takes (lamCx X A outer s1 HZ E scope f c') (fun cls d _ H' => E cls d H') := takes_of rfl rfl rfl rfl
  have z := (hbody A outer s1 HZ E M' Kk Ke hgd (hr.deeper _) hS).run (here F1 HZ M') F1 HZ σ Q' _ tk Wd0 (pMono sf S) sat (fun ρ C p M d σ F2 H2 q W2 s2 x _ => satx C p M d F2 H2 q W2 s2 x)
  exact PySem.W.kla_codeExpr (wpAny_mono (z [] _ J) (fun v s' ⟨w', H', J', rv, q⟩ => ⟨w', H', J'.os, J'.bare, J'.base, J'.hok, rv, q⟩) fun e s' hq => hq)
/-- ask(), ask a lambda that was handed in -/
theorem gxask (i : Nat) {a : Str} {p1 p2 : Pos} {k : Nat} {Sa : LSpec} (hex : X.ex = []) (hgd : X.A.guards = some []) (hr : Room (k + 1) X.A) (hρ : ρ[i]? = some (.sm (lamSem X.prog X.w X.K X.mg X.base k X.fs X.s_0 X.H_0 Sa)))
    (h : ∃ Ma Mr, M.Perm (Ma ++ Mr) ∧ Sa Ma (fun r M' => Q r (M' ++ Mr)) (fun C p M' => Ex ρ C p (M' ++ Mr))) (hN : X.N[i]? = some a := by rfl) (hv : Vis X.env.scope a := by first | exact Or.inl rfl | exact Or.inr (Or.inl rfl) | exact Or.inr (Or.inr rfl))
    (hd : (a == ("__debug__" : Str)) = false := by decide) (hcd : (a == ("__classdict__" : Str)) = false := by decide) : GEx X ρ M (.Call (.Name a p1) [] [] p2) Q Ex := ⟨fun B F HZ σ Q' W tk Wd0 S s sx => by
  obtain ⟨o, e1, e2⟩ := pget S hρ
  obtain ⟨v, e3, e4⟩ := e2.isV rfl
  subst e3
  obtain ⟨f, rfl, hL⟩ := e4
  obtain ⟨Ma, Mr, hp, hS⟩ := h
  intro pins st I
  refine wpAny_Call_Name_kw (thn ((pe_var hN hv hd hcd).run pins st σ HZ (fun v H1 => v = .ref f ∧ H1 = HZ) I ⟨.ref f, e1, rfl, rfl⟩) fun u s1 hh => ?_)
  obtain ⟨v, H1, I1, r1, rfl, rfl⟩ := hh
  obtain rfl : u = Value.ref f := r1
  have un : Un X.fs [] X.H_0 H1 X.s_0.heap s1.heap := by
    have := I1.base
    rwa [hex] at this
  have W1 := Wd0.perm hp
  have W2 := W1.sub (List.sublist_append_left Ma Mr)
  obtain ⟨hfn, hrun⟩ := hL X.A X.stack s1 H1 Q' (fun cls d H' => W cls d σ H') hgd hr I1.env0 un ⟨F, Ma, _, _, Same.refl F, W2.here, hS, fun r M' v F' H' q W' s' vv => s r _ v F' H' q (W1.frame W') s' vv, fun C p M' d F' H' q W' s' x => sx ρ C p _ d σ F' H' q (W1.frame W') s' x (pMono s' S)⟩
  refine PySem.W.callWith_F0 hfn (wpAny_call (codeAny_mono hrun fun res s' hq => ?_))
  match res, hq with
  | .error _, hq => exact tk _ _ (XE.of_call I1 (fun _ _ _ q => q) hq)
  | .ok (.ret _), hq => exact I1.after hq
  | .ok .next, hq => exact False.elim hq
  | .ok .brk, hq => exact False.elim hq
  | .ok .cont, hq => exact False.elim hq⟩
/-! making it -/
theorem lam_make3 {pins : List (Addr × Obj)} {σ : L2.St} {H : Hp} {s : Shared} {c P : Addr} {ps : Array Value} {params : Arguments} {body : Expr} {scope : Scope} {E Q : Value → Shared → Prop} (Pc : Addr → Prop) (I : Inv X pins σ H s) (TB : TabB X.base X.mg c P) (hcode : X.env.code = .ref c)
    (hP : H P = some (.tbl ps)) (ht : TriplesOk ps.toList) (ha : ∀ pos cv, codeAmong pos ps.toList = some cv → ∃ c, cv = Value.ref c ∧ H c = some (CodeO c (X.env.qual ++ "<lambda>")) ∧ Pc c) (hdef : defaultsOf params X.env = ([], [])) (hfree : ∀ y ∈ scope.names, y.2 = .free → ∃ c, X.env.cells.lookup y.1 = some c)
    (h : ∀ (f c' : Addr) (pm ctv : Value) (H1 : Hp) (s' : Shared), Inv X pins σ H1 s' → (H1 = H ∧ Pc c' ∨ ∃ more : Array Value, H1 = upd (upd H P (.tbl (ps ++ more))) c' (CodeO c' (X.env.qual ++ "<lambda>")) ∧ H c' = none ∧ TriplesOk (ps ++ more).toList ∧ ∀ pos cv, codeAmong pos (ps ++ more).toList = some cv → codeAmong pos ps.toList = some cv ∨ cv = .ref c') →
      s'.heap.get? f = some (PySem.W.kla_obj "<lambda>" (X.env.qual ++ "<lambda>") params body scope (cloFrom X.env.cells scope.names []) pm c' ctv) → H1 f = none → f ∉ frs X.stack → H1 c' = some (CodeO c' (X.env.qual ++ "<lambda>")) → Q (.ref f) s') :
    wpAny (model X.prog X.w) X.A (eval (.Lambda params body scope pos) X.env) Q E s := by
  refine PySem.W.kla_eval hdef ?_
  have bP := TB.bm.keeps (Inv.bk I)
  have hP' : s.heap.get? P = some { cls := .none, data := .fields ps } := I.hok P _ hP
  have nofr : ∀ f, s.heap.objs.size ≤ f → f ∉ frs X.stack := fun f hf z => by
    rcases List.mem_cons.mp (I.stkSub f z) with e | e
    · have h1 := I.lt
      rw [← e] at h1
      exact Nat.lt_irrefl f (Nat.lt_of_lt_of_le h1 hf)
    · exact I.nofs hf e
  have glob := I.ok.mod.glob.keeps (Inv.bk I)
  cases hc : codeAmong pos ps.toList with
  | none =>
    refine PySem.W.kla_makeFunction (closure_ok hfree) I.ok.glob glob hcode (TB.code.keeps (Inv.bk I)) hP' ht hc TB.gP bP fun c' ctv h' tk hx hge hlt hrec htb => ?_
    obtain ⟨c2, oc, vs, t, e2, hoc, hd, hv⟩ := hrec
    cases e2
    have hsz := Nat.le_trans hge (Nat.le_of_lt hlt)
    have nC := I.hok.fresh hge
    have I1 := inv_table (t' := tk) (q := X.env.qual ++ "<lambda>") I hP (fun b o hb e => Heap.get?_push_of_some (PySem.W.kla_obj "<lambda>" (X.env.qual ++ "<lambda>") params body scope (cloFrom X.env.cells scope.names []) ((X.mg "__name__").getD .none) c' ctv) (hx b o hb e)) (Heap.get?_push_of_some _ htb) hge ⟨oc, vs, t, Heap.get?_push_of_some _ hoc, hd, hv⟩
    have eL : (ps ++ #[rawInt ↑pos.line, rawInt ↑pos.col, Value.ref c']).toList = ps.toList ++ [rawInt ↑pos.line, rawInt ↑pos.col, Value.ref c'] := by simp
    refine h h'.objs.size c' _ ctv _ _ I1 (.inr ⟨_, rfl, nC, ?_, fun p' cv hcv => ?_⟩) (Heap.get?_push_size h' rfl) ?_ (nofr _ hsz) upd_same
    · rw [eL]
      exact TriplesOk_snoc _ _ _ _ ht
    · rw [eL] at hcv
      exact among_app ps.toList ht hcv
    · rw [upd_ne (Nat.ne_of_gt hlt), upd_ne (Nat.ne_of_gt (Nat.lt_of_lt_of_le (Heap.lt_size hP') hsz))]
      exact I.hok.fresh hsz
  | some cv =>
    obtain ⟨c', rfl, hco, hpc⟩ := ha pos cv hc
    refine PySem.W.kla_makeFunctionHit (closure_ok hfree) I.ok.glob glob hcode (TB.code.keeps (Inv.bk I)) hP' ht hc bP fun ctv h' tk hx hsz => ?_
    have I1 := Inv.kept (t' := tk) I fun b o e => Heap.get?_push_of_some (PySem.W.kla_obj "<lambda>" (X.env.qual ++ "<lambda>") params body scope (cloFrom X.env.cells scope.names []) ((X.mg "__name__").getD .none) c' ctv) (hx b o e)
    exact h h'.objs.size c' _ ctv H _ I1 (.inl ⟨rfl, hpc⟩) (Heap.get?_push_size h' rfl) (I.hok.fresh hsz) (nofr _ hsz) hco
end
/-- the table of the code objects of a def: all of its lambdas are called q -/
def tabM (q : Str) : SemM where
  φ := fun F H P => ∃ ps, H P = some (.tbl ps) ∧ TriplesOk ps.toList ∧ ∀ pos cv, codeAmong pos ps.toList = some cv → ∃ c, cv = Value.ref c ∧ F c = some (CodeO c q)
  mono := fun e k ⟨ps, h1, h2, h3⟩ => ⟨ps, k _ h1, h2, fun pos cv h => by
    obtain ⟨c, e1, e2⟩ := h3 pos cv h
    exact ⟨c, e1, e _ _ e2⟩⟩
  notup := fun ⟨ps, h1, _⟩ e => nomatch h1.symm.trans e
  there := fun ⟨ps, h1, _⟩ => ⟨_, h1⟩
theorem Wd.code {B : Bs} {F H H1 : Hp} {M : Mem} {P c' : Addr} {q : Str} {ps more : Array Value} (W : Wd B F H ((P, .sm (tabM q)) :: M)) (hP : H P = some (.tbl ps)) (ht : TriplesOk ps.toList) (ha : ∀ pos cv, codeAmong pos ps.toList = some cv → ∃ c, cv = Value.ref c ∧ F c = some (CodeO c q))
    (e1 : H1 = upd (upd H P (.tbl (ps ++ more))) c' (CodeO c' q)) (hc : H c' = none) (ht' : TriplesOk (ps ++ more).toList) (hm : ∀ pos cv, codeAmong pos (ps ++ more).toList = some cv → codeAmong pos ps.toList = some cv ∨ cv = .ref c') :
    ∃ F1, Same F F1 ∧ Wd B F1 H1 ((P, .sm (tabM q)) :: M) ∧ F1 c' = some (CodeO c' q) := by
  obtain ⟨W2, s2⟩ := W.froz (o := CodeO c' q) hc
  have hne : P ≠ c' := fun z => by rw [z, hc] at hP; cases hP
  have W3 : Wd B (upd F c' (CodeO c' q)) (upd (upd H c' (CodeO c' q)) P (.tbl (ps ++ more))) ((P, .sm (tabM q)) :: M) := by
    refine W2.writeG ⟨ps ++ more, upd_same, ht', fun pos cv h => ?_⟩
    rcases hm pos cv h with z | z
    · obtain ⟨c, e2, e3⟩ := ha pos cv z
      exact ⟨c, e2, s2 _ _ e3⟩
    · exact ⟨c', z, upd_same⟩
  have eH : upd (upd H c' (CodeO c' q)) P (.tbl (ps ++ more)) = H1 := by
    rw [e1]
    funext b
    by_cases b1 : b = P
    · subst b1
      rw [upd_same, upd_ne hne, upd_same]
    · rw [upd_ne b1]
      by_cases b2 : b = c'
      · subst b2
        rw [upd_same, upd_same]
      · rw [upd_ne b2, upd_ne b2, upd_ne b1]
  rw [eH] at W3
  exact ⟨_, s2, W3, upd_same⟩
section
variable {X : Cx} {ρ : List SD} {M : Mem} {Q : Kn} {Ex : XKn} {pos : Pos} {e : Expr}
/-- x(lambda: body): nothing flies out of x -/
theorem gxlam {x : Str} {p lpos : Pos} {g : Addr} {fd : FuncData} {a : Str} {k k1 : Nat} {S : Around → List Env → Shared → Hp → GSpecX} {c P : Addr} {params : Arguments} {body : Expr} {scope : Scope} {M0 : Mem} (F : FnGS X.prog X.w X.K X.mg X.base k1 g fd [a] S) (hgd : X.A.guards = some []) (hr : Room k1 X.A) (hm : X.mg x = some (.ref g)) (hk : PySem.W.keepIn X.K (.ref g) = true) (hb : Binds X.K fd [a] [])
    (TB : TabB X.base X.mg c P) (hcode : X.env.code = .ref c) (L : LamS X.env.scope scope) (Sa : LSpec) (hpm : M.Perm ((P, .sm (tabM (X.env.qual ++ "<lambda>"))) :: M0))
    (hbody : ∀ (A : Around) (outer : List Env) (s1 : Shared) (HZ : Hp) (E : XK) (f c' : Addr) M' Kk Ke, A.guards = some [] → Room k (A.deeper (lamEnv X scope s1.heap.objs.size f c')) → Sa M' Kk Ke → GEx (lamCx X A outer s1 HZ E scope f c') ρ M' body Kk (fun _ C p M'' => Ke C p M''))
    (h : ∀ s H, ∃ Ma Mr, ((P, MO.sm (tabM (X.env.qual ++ "<lambda>"))) :: M0).Perm (Ma ++ Mr) ∧ S X.A X.stack s H [.sm (lamSem X.prog X.w X.K X.mg X.base k (frs X.stack) s H Sa)] Ma (fun r M' => Q r (M' ++ Mr)) (fun _ _ _ => False))
    (hg : Gl X x := by rfl) (hdb : (x == ("__debug__" : Str)) = false := by decide) (hdef : defaultsOf params X.env = ([], []) := by rfl) (hbind : ∀ (q : Str) (cl : List (Str × Addr)) (pm cv ctv : Value), bindArgs (PySem.W.kla_fn "<lambda>" q params body scope cl pm cv ctv) {} = pure [] := by intros; rfl)
    (he : starEach [.Lambda params body scope lpos] X.env = (false, eval (.Lambda params body scope lpos) X.env) :: starEach [] X.env := by rfl) (hpl : (backTo pos (starEach [] X.env)).any (·.1) = false := by rfl) :
    GE X ρ M (.Call (.Name x p) [.Lambda params body scope lpos] [] pos) Q := .mk fun B F' H σ Q' Wd0 S' s => by
  intro pins st I
  have W1 := Wd0.perm hpm
  obtain ⟨f1, ps, hP, ht, ha⟩ := W1.mem _ List.mem_cons_self
  have ha : ∀ pos cv, codeAmong pos ps.toList = some cv → ∃ c, cv = Value.ref c ∧ F' c = some (CodeO c (X.env.qual ++ "<lambda>")) := ha
  have hfree : ∀ y ∈ scope.names, y.2 = .free → ∃ c, X.env.cells.lookup y.1 = some c := fun y hy hy2 => by
    rcases L.free y hy hy2 with z | z
    · exact I.ok.has y.1 (.inl z)
    · exact I.ok.has y.1 (.inr z)
  refine wpAny_Call_Name_kw (ld_glob I hg hm ?_ hdb)
  refine PySem.W.callWith_K (h₀ := X.base) I.ok.mod.kin hk (PySem.Calls.spliced_cons (lam_make3 (fun c => F' c = some (CodeO c (X.env.qual ++ "<lambda>"))) I TB hcode hP ht (fun pos cv hcv => ?_) hdef hfree fun f c' pm ctv H1 s' I1 hH hf hfn hfr hco => PySem.Calls.spliced_nil ?_)) he hpl
  · obtain ⟨c, e1, e2⟩ := ha pos cv hcv
    exact ⟨c, e1, W1.fh _ _ e2, e2⟩
  obtain ⟨F2, s2, W2, hFc⟩ : ∃ F2, Same F' F2 ∧ Wd B F2 H1 ((P, .sm (tabM (X.env.qual ++ "<lambda>"))) :: M0) ∧ F2 c' = some (CodeO c' (X.env.qual ++ "<lambda>")) := by
    rcases hH with ⟨e1, e2⟩ | ⟨more, e1, e2, e3, e4⟩
    · exact ⟨F', Same.refl F', by rw [e1]; exact W1, e2⟩
    · exact W1.code hP ht ha e1 e2 e3 e4
  refine ⟨I1.kIn, ?_⟩
  have hL := lam_at (k := k) (Sa := Sa) I1 L hf hfn hfr (hbind _ _ _ _ _) hFc (pMono s2 S') fun A outer s1 HZ E M' Kk Ke h1 h2 h3 => hbody A outer s1 HZ E f c' M' Kk Ke h1 h2 h3
  obtain ⟨Ma, Mr, hp, hs⟩ := h s' H1
  have W3 := W2.perm hp
  have W4 := W3.sub (List.sublist_append_left Ma Mr)
  have z := F.run X.A X.stack s' H1 ⟨[.ref f], []⟩ [.ref f] [.ref f] Q' (fun _ _ _ => False) hgd hr I1.env0 (hb s' [.ref f] I1.kIn rfl) (.cons rfl .nil) ⟨F2, _, Ma, _, _, .cons (show VOk F2 (.ref f) (.sm (lamSem X.prog X.w X.K X.mg X.base k (frs X.stack) s' H1 Sa)) from ⟨f, rfl, hL⟩) .nil, W4.here, hs, fun r M' v F3 H3 q W' s3 vv => s r _ v F3 H3 q (W3.frame W') (s2.trans s3) vv, fun C p M' d F3 H3 q _ _ _ => q.elim⟩
  refine wpAny_call (codeAny_mono z fun res s'' hq => ?_)
  match res, hq with
  | .error _, hq =>
    obtain ⟨_, _, _, _, _, _, _, _, _, _, _, _, q⟩ := hq
    exact q.elim
  | .ok (.ret _), hq => exact I1.after hq
  | .ok .next, hq => exact False.elim hq
  | .ok .brk, hq => exact False.elim hq
  | .ok .cont, hq => exact False.elim hq
end
end G

/-! ### the end of a law whose defs make lambdas -/
namespace G
open PySem PySem.Spec PyProof.Rows L2 LamX
/-- the tables of code objects, told -/
abbrev tabs (tb : List (Addr × Str)) : Mem := tb.map fun p => (p.1, MO.sm (tabM p.2))
def LawST (K : PySem.W.Frag) (n : Nat) (tb : List (Addr × Str)) : GSpec := fun rs M Kk => ∃ a ns Ms, rs = [.rf (.ref a)] ∧ M = tabs tb ++ Ms ∧ Scr K Ms a ns ∧ ns.length ≤ n ∧ (∀ z ∈ ns, Builtin.Int.intBits z ≤ 1048576) ∧ (Ms = [] ∨ ∃ mo, Ms = [(a, mo)]) ∧ ∀ M', Kk (.pu (.bool true)) M'
section
variable {P : Program} {w : World} {K : PySem.W.Frag} {mg mb : Str → Option Value} {k n : Nat} {fa a : Addr} {fd : FuncData} {x : Str} {t : Shared} {vs : List Value} {ns : List Int} {cs : List (Addr × Addr × Str)}
theorem head_atT {H : Hp} {S : GSpec} (KX : K.In t.heap) (nm : t.heap.Ns mainGlobals mg) (nb : t.heap.Ns builtinsNs mb) (hbb : ∀ x : Str, x ≠ "__name__" → mb x = bootBuiltins x) (lim : t.heap.NoLimit) (gn : t.gens = #[])
    (hbm : ∃ bm ob, mg "__builtins__" = some (.ref bm) ∧ bm ≠ builtinsNs ∧ t.heap.get? bm = some ob ∧ ob.cls = .type "module" ∧ ob.dict = some builtinsNs ∧ ob.data = .plain)
    (ha : t.heap.get? a = some (scO vs)) (hr : Room k callerA) (hT : ∀ p ∈ cs, t.heap.get? p.2.1 = some (PySem.W.tabObj #[])) (hC : ∀ p ∈ cs, PySem.W.CodeHd t.heap p.1 p.2.1)
    (FF : ∀ base : Heap, K.In base → base.Ns mainGlobals mg → (∀ p ∈ cs, TabB base mg p.1 p.2.1) → FnG P w K mg base k fa fd [x] S) (bd : ∀ (s : Shared) (u : Value), BindsTo s fd ⟨[u], []⟩ [(x, u)])
    (only : ∀ b, H b = none ∨ ((∃ p ∈ cs, p.2.1 = b) ∧ H b = some (.tbl #[])) ∨ b = a ∧ ∃ o xs, H b = some (.frz o (.lst xs))) (ok : HOk P w H t.heap) (nk : ∀ b, H b ≠ none → K.lookup b = none) (hall : ∀ p ∈ cs, H p.2.1 = some (.tbl #[])) (sp : spG S [.ref a] H (fun v _ => v = .bl true) E0) :
    codeAny (model P w) callerA (.call (.ref fa) ⟨[.ref a], []⟩) (EndsWell t) t := by
  have off : ∀ {b : Addr} {o : Obj}, t.heap.get? b = some o → (∀ vs n, o.data ≠ .seq vs n) → o.data ≠ .fields #[] → H b = none := by
    intro b o e d1 d2
    rcases only b with z | ⟨⟨p, hp, z⟩, _⟩ | ⟨z, _⟩
    · exact z
    · have := hT p hp
      rw [z, e] at this
      cases this
      exact absurd rfl d2
    · rw [z, ha] at e
      cases e
      exact absurd rfl (d1 _ _)
  have free : ∀ {b : Addr} {o : Obj} {es : Array DictEntry} {ep : Nat}, t.heap.get? b = some o → o.data = .dict es ep → H b = none := fun e d => off e (fun _ _ z => by rw [d] at z; cases z) (fun z => by rw [d] at z; cases z)
  have hid : ∀ {b : Addr} {m : Str → Option Value}, t.heap.Ns b m → (hidT t.heap H).Ns b m := by
    rintro b m ⟨o, es, ep, e, d, r⟩
    exact ⟨o, es, ep, hidT_get e (free e d), d, r⟩
  have kin : K.In (hidT t.heap H) := by
    intro b o e
    refine hidT_get (KX b o e) (Classical.byContradiction fun hn => ?_)
    rw [nk b hn] at e
    cases e
  have md : Mod K mg (hidT t.heap H) := by
    obtain ⟨mc, l1, l2⟩ := lim
    exact ⟨kin, hid nm, ⟨mb, hid nb, hbb⟩, ⟨mc, hid l1, l2⟩⟩
  have e0 : Env0 P w K mg (hidT t.heap H) callerA [] t H := ⟨rfl, md, fun b o e => of_hidT e, Nat.le_of_eq (hidT_size _ _), trivial, fun b hb => (List.not_mem_nil hb).elim, ok, .of_eq gn⟩
  have TB : ∀ p ∈ cs, TabB (hidT t.heap H) mg p.1 p.2.1 := by
    intro p hp
    have hTp := hT p hp
    refine ⟨?_, ?_, fun z => ?_⟩
    · obtain ⟨o, us, file, tf, flags, tg, inF, text, tt, e1, r1, r2, r3, r⟩ := hC p hp
      refine ⟨o, us, file, tf, flags, tg, inF, text, tt, hidT_get e1 (off e1 (fun _ _ z => by rw [r2] at z; cases z) fun z => ?_), r1, r2, r3, r⟩
      rw [r2] at z
      cases z
      simp at r3
    · obtain ⟨bm, ob, b1, b2, b3, b4, b5, b6⟩ := hbm
      refine ⟨bm, ob, b1, b2, fun z => ?_, fun z => ?_, hidT_get b3 (off b3 (fun _ _ z => by rw [b6] at z; cases z) fun z => by rw [b6] at z; cases z), b4, b5, b6⟩
      · obtain ⟨o, es, ep, e, d, _⟩ := nm
        rw [z, e] at b3
        cases b3
        rw [d] at b6
        cases b6
      · rw [z, hTp] at b3
        cases b3
        cases b6
    · obtain ⟨o, es, ep, e, d, _⟩ := nm
      rw [z, hTp] at e
      cases e
      cases d
  have ran := (FF _ kin (hid nm) TB).run callerA [] t H ⟨[.ref a], []⟩ [.ref a] [.ref a] _ rfl hr e0 (bd t (.ref a)) (.cons rfl .nil) sp
  refine codeAny_mono ran fun r t' h => ?_
  match r, h with
  | .error _, h => exact False.elim h
  | .ok .next, h => exact False.elim h
  | .ok .brk, h => exact False.elim h
  | .ok .cont, h => exact False.elim h
  | .ok (.ret u), h =>
    obtain ⟨v, H', os, bare, un, ok', rv, q⟩ := h
    have q : v = .bl true := q
    subst q
    have rv : u = Value.bool true := rv
    subst rv
    have key : ∀ b o, (¬ ∃ p ∈ cs, p.2.1 = b) → t.heap.get? b = some o → t'.heap.get? b = some o := by
      intro b o hn e
      rcases only b with z | ⟨z, _⟩ | ⟨_, ob, xs, z⟩
      · exact un.keep b o e z (fun y => (List.not_mem_nil y).elim) (by simp)
      · exact absurd z hn
      · have b1 := (ok b _ z).1
        have b2 := (ok' b _ (un.frzs b ob _ z)).1
        rw [e] at b1
        cases b1
        exact b2
    have grown : ∀ p ∈ cs, ∃ more, t'.heap.get? p.2.1 = some (PySem.W.tabObj more) := by
      intro p hp
      obtain ⟨more, z⟩ := un.tbls p.2.1 #[] (hall p hp)
      exact ⟨#[] ++ more, ok' p.2.1 _ z⟩
    refine ⟨rfl, ⟨fun b o e => ?_, fun b o e => ?_⟩, os, bare⟩
    · by_cases hb : ∃ p ∈ cs, p.2.1 = b
      · obtain ⟨p, hp, rfl⟩ := hb
        obtain ⟨more, hm⟩ := grown p hp
        have z := hT p hp
        rw [e] at z
        cases z
        exact .inr (.inl ⟨Heap.TableAt.isCodeTable (PySem.W.CodeHd.tab (hC p hp) (hT p hp)), rfl, #[], more, rfl, by rw [Array.empty_append]; exact hm⟩)
      · exact .inl (key b o hb e)
    · by_cases hb : ∃ p ∈ cs, p.2.1 = b
      · obtain ⟨p, hp, rfl⟩ := hb
        obtain ⟨more, hm⟩ := grown p hp
        exact ⟨_, hm⟩
      · exact ⟨o, key b o hb e⟩
abbrev tbOf (cs : List (Addr × Addr × Str)) : List (Addr × Str) := cs.map fun p => (p.2.1, p.2.2)
theorem tabM_nil {F H : Hp} {P : Addr} {q : Str} (h : H P = some (.tbl #[])) : (tabM q).φ F H P := by
  obtain ⟨ps, h1, h2, _⟩ := TabS.nil (q := q) h
  rw [h] at h1
  cases h1
  exact ⟨#[], h, h2, fun pos cv z => by cases z⟩
theorem law_headT (KX : K.In t.heap) (nm : t.heap.Ns mainGlobals mg) (nb : t.heap.Ns builtinsNs mb) (hbb : ∀ x : Str, x ≠ "__name__" → mb x = bootBuiltins x) (lim : t.heap.NoLimit) (gn : t.gens = #[])
    (hbm : ∃ bm ob, mg "__builtins__" = some (.ref bm) ∧ bm ≠ builtinsNs ∧ t.heap.get? bm = some ob ∧ ob.cls = .type "module" ∧ ob.dict = some builtinsNs ∧ ob.data = .plain)
    (ha : t.heap.get? a = some (scO vs)) (hi : IntsAre vs ns) (hl : ns.length ≤ n) (hn : n ≤ sizeLine) (hbits : ∀ z ∈ ns, Builtin.Int.intBits z ≤ 1048576) (hr : Room k callerA)
    (hT : ∀ p ∈ cs, t.heap.get? p.2.1 = some (PySem.W.tabObj #[])) (hC : ∀ p ∈ cs, PySem.W.CodeHd t.heap p.1 p.2.1) (hK : ∀ p ∈ cs, K.lookup p.2.1 = none) (hnd : (cs.map (·.2.1)).Nodup)
    (FF : ∀ base : Heap, K.In base → base.Ns mainGlobals mg → (∀ p ∈ cs, TabB base mg p.1 p.2.1) → FnG P w K mg base k fa fd [x] (LawST K n (tbOf cs))) (bd : ∀ (s : Shared) (u : Value), BindsTo s fd ⟨[u], []⟩ [(x, u)]) :
    codeAny (model P w) callerA (.call (.ref fa) ⟨[.ref a], []⟩) (EndsWell t) t := by
  have rv := vals_ints hi
  have hl2 : ns.length ≤ sizeLine := Nat.le_trans hl hn
  have sat : ∀ {B : Bs} {F : Hp}, Sat B F (fun r M' => r = .pu (.bool true)) (fun v _ => v = V.bl true) := by
    intro B F r M' v F' H' q W s vv
    subst q
    have vv : Dt F' v (.bool true) := vv
    cases vv
    rfl
  have nota : ∀ p ∈ cs, p.2.1 ≠ a := fun p hp z => by
    have := hT p hp
    rw [z, ha] at this
    cases this
  have mem_iff : ∀ b, b ∈ cs.map (·.2.1) ↔ ∃ p ∈ cs, p.2.1 = b := fun b => List.mem_map
  have keys : (tabs (tbOf cs)).map (·.1) = cs.map (·.2.1) := by
    unfold tabs tbOf
    rw [List.map_map, List.map_map]
    rfl
  have tmem : ∀ p ∈ tabs (tbOf cs), ∃ c ∈ cs, p = (c.2.1, MO.sm (tabM c.2.2)) := fun p hp => by
    obtain ⟨q, hq, rfl⟩ := List.mem_map.mp hp
    obtain ⟨c, hc, rfl⟩ := List.mem_map.mp hq
    exact ⟨c, hc, rfl⟩
  cases hk : K.lookup a with
  | some o =>
    have e := KX a o hk
    rw [ha] at e
    cases e
    have sk : ScrK K a (ns.map V.int) := ⟨_, vs.toArray, _, hk, rfl, rfl, rfl, by rw [List.size_toArray, hi.length]; exact hl2, by simpa using rv⟩
    have on : ∀ {b : Addr}, b ∈ cs.map (·.2.1) → (fun b => if b ∈ cs.map (·.2.1) then some (HO.tbl #[]) else none : Hp) b = some (.tbl #[]) := fun h => if_pos h
    have off : ∀ {b : Addr}, b ∉ cs.map (·.2.1) → (fun b => if b ∈ cs.map (·.2.1) then some (HO.tbl #[]) else none : Hp) b = none := fun h => if_neg h
    generalize (fun b => if b ∈ cs.map (·.2.1) then some (HO.tbl #[]) else none : Hp) = H at on off
    refine head_atT (H := H) KX nm nb hbb lim gn hbm ha hr hT hC FF bd (fun b => ?_) (fun b u z => ?_) (fun b z => ?_) (fun p hp => on (List.mem_map_of_mem hp)) ?_
    · by_cases h : b ∈ cs.map (·.2.1)
      · exact .inr (.inl ⟨(mem_iff b).mp h, on h⟩)
      · exact .inl (off h)
    · by_cases h : b ∈ cs.map (·.2.1)
      · rw [on h] at z
        cases z
        obtain ⟨p, hp, rfl⟩ := (mem_iff b).mp h
        exact hT p hp
      · rw [off h] at z
        cases z
    · by_cases h : b ∈ cs.map (·.2.1)
      · obtain ⟨p, hp, rfl⟩ := (mem_iff b).mp h
        exact hK p hp
      · exact absurd (off h) z
    · refine ⟨fun _ => none, [.rf (.ref a)], tabs (tbOf cs), fun r _ => r = .pu (.bool true), .cons rfl .nil, ?_, ⟨a, ns, [], rfl, by rw [List.append_nil], .kit sk, hl, hbits, .inl rfl, fun _ => rfl⟩, sat⟩
      refine ⟨fun b o e => (nomatch e), fun b o e => e, fun b o e => .inl (.inl e), fun b o e _ => e, fun b e => e, fun p hp => ?_, by rw [keys]; exact hnd, fun p hp => .inr (List.mem_map_of_mem hp)⟩
      obtain ⟨c, hc, rfl⟩ := tmem p hp
      exact ⟨rfl, tabM_nil (on (List.mem_map_of_mem hc))⟩
  | none =>
    have at_a : (fun b => if b = a then some (HO.frz (scO vs) (.lst (ns.map V.int))) else if b ∈ cs.map (·.2.1) then some (HO.tbl #[]) else none : Hp) a = some (.frz (scO vs) (.lst (ns.map V.int))) := if_pos rfl
    have on : ∀ {b : Addr}, b ∈ cs.map (·.2.1) → (fun b => if b = a then some (HO.frz (scO vs) (.lst (ns.map V.int))) else if b ∈ cs.map (·.2.1) then some (HO.tbl #[]) else none : Hp) b = some (.tbl #[]) := fun {b} h => by
      obtain ⟨p, hp, e⟩ := (mem_iff b).mp h
      exact (if_neg (fun z => nota p hp (e.trans z))).trans (if_pos h)
    have off : ∀ {b : Addr}, b ≠ a → b ∉ cs.map (·.2.1) → (fun b => if b = a then some (HO.frz (scO vs) (.lst (ns.map V.int))) else if b ∈ cs.map (·.2.1) then some (HO.tbl #[]) else none : Hp) b = none := fun h1 h2 => (if_neg h1).trans (if_neg h2)
    generalize (fun b => if b = a then some (HO.frz (scO vs) (.lst (ns.map V.int))) else if b ∈ cs.map (·.2.1) then some (HO.tbl #[]) else none : Hp) = H at at_a on off
    refine head_atT (H := H) KX nm nb hbb lim gn hbm ha hr hT hC FF bd (fun b => ?_) (fun b u z => ?_) (fun b z => ?_) (fun p hp => on (List.mem_map_of_mem hp)) ?_
    · by_cases h : b = a
      · rw [h]
        exact .inr (.inr ⟨rfl, _, _, at_a⟩)
      · by_cases h2 : b ∈ cs.map (·.2.1)
        · exact .inr (.inl ⟨(mem_iff b).mp h2, on h2⟩)
        · exact .inl (off h h2)
    · by_cases h : b = a
      · subst h
        rw [at_a] at z
        cases z
        exact ⟨ha, by rw [List.length_map]; exact hl2, vs, _, rv, ha⟩
      · by_cases h2 : b ∈ cs.map (·.2.1)
        · rw [on h2] at z
          cases z
          obtain ⟨p, hp, rfl⟩ := (mem_iff b).mp h2
          exact hT p hp
        · rw [off h h2] at z
          cases z
    · by_cases h : b = a
      · rw [h]
        exact hk
      · by_cases h2 : b ∈ cs.map (·.2.1)
        · obtain ⟨p, hp, rfl⟩ := (mem_iff b).mp h2
          exact hK p hp
        · exact absurd (off h h2) z
    · refine ⟨fun _ => none, [.rf (.ref a)], tabs (tbOf cs) ++ [(a, .frz (ns.map V.int))], fun r _ => r = .pu (.bool true), .cons rfl .nil, ?_, ⟨a, ns, [(a, .frz (ns.map V.int))], rfl, rfl, .own List.mem_cons_self, hl, hbits, .inr ⟨_, rfl⟩, fun _ => rfl⟩, sat⟩
      refine ⟨fun b o e => (nomatch e), fun b o e => e, fun b o e => .inl (.inl e), fun b o e _ => e, fun b e => e, fun p hp => ?_, ?_, fun p hp => .inr (List.mem_map_of_mem hp)⟩
      · rcases List.mem_append.mp hp with q | q
        · obtain ⟨c, hc, rfl⟩ := tmem p q
          exact ⟨rfl, tabM_nil (on (List.mem_map_of_mem hc))⟩
        · rw [List.mem_singleton.mp q]
          exact ⟨rfl, _, at_a⟩
      · rw [List.map_append, keys]
        refine List.nodup_append.mpr ⟨hnd, List.pairwise_singleton _ _, fun b hb c hc e => ?_⟩
        rw [List.map_cons, List.map_nil, List.mem_singleton] at hc
        obtain ⟨p, hp, e2⟩ := (mem_iff b).mp hb
        exact nota p hp (e2.trans (e.trans hc))
end
/-- from the promise of the law's def to the statement's goal -/
theorem walkT {l : PySem.W.OpenLaw} {n k : Nat} {q : Program} {loose : List Str} {XP : (Str → Option Value) → Heap → Prop} {YP : World → Heap → Prop} {d : DefRec} {K : Params → PySem.W.Frag} {x : Str} {ts : List Addr}
    (hn : l.most = some n) (hn2 : n ≤ sizeLine) (hdf : d.params.defaults = []) (hr : Room k callerA) (hY : ∀ (w : World) (h : Heap), YP w h → (K w.params).In h) (hTs : ∀ (w : World) (h : Heap), YP w h → ∀ P ∈ ts, h.get? P = some (PySem.W.tabObj #[]))
    (FF : ∀ (w : World) (mg : Str → Option Value) (fa : Addr) (h : Heap), (K w.params).In h → h.Ns mainGlobals mg → mg d.name = some (.ref fa) → ∃ (fd : FuncData) (cs : List (Addr × Addr × Str)), (∀ (s : Shared) (u : Value), BindsTo s fd ⟨[u], []⟩ [(x, u)]) ∧
      (∀ p ∈ cs, p.2.1 ∈ ts) ∧ (∀ p ∈ cs, PySem.W.CodeHd h p.1 p.2.1) ∧ (∀ p ∈ cs, (K w.params).lookup p.2.1 = none) ∧ (cs.map (·.2.1)).Nodup ∧
      ∀ base : Heap, (K w.params).In base → base.Ns mainGlobals mg → (∀ p ∈ cs, TabB base mg p.1 p.2.1) → FnG l.prog w (K w.params) mg base k fa fd [x] (LawST (K w.params) n (tbOf cs))) :
    PySem.W.WalkO q loose XP YP l.row.toRowW d [] (fun f vs => PySem.call f vs) := by
  refine Att.attach_callB hn hdf fun w s₀ t mg mb fa o pm cd doc a vs ns G Y _ _ _ hmg hobj hints hlen hbits hg => ?_
  have KX := hY w _ Y
  obtain ⟨fd, cs, hb, h1, h2, h3, h4, hF⟩ := FF w mg fa _ KX G.T.g hmg
  exact law_headT KX G.T.g G.T.b G.T.builtins G.T.nolimit hg G.T.bmain hobj hints hlen hn2 hbits hr (fun p hp => hTs w _ Y _ (h1 p hp)) h2 h3 h4 hF hb
end G

namespace G
open PySem PySem.Spec PyProof.Rows L2
/-! ### the levels are searched as the table -/
theorem go_levT {T : Tab} {n : Nat} {k : Int} : ∀ (f i c : Nat), c ≤ n → (i < T.length → 0 < c → Btw T n k i (c - 1)) → go (levT T n) k f i c = go T k f i c
  | 0, i, c, _, _ => rfl
  | f + 1, i, c, hc, hb => by
    by_cases h : i < T.length ∧ 0 < c
    · obtain ⟨h1, h2⟩ := h
      have b := hb h1 h2
      have hj : c - 1 < n := by omega
      have h1' : i < (levT T n).length := by rw [levT_len]; exact h1
      have e : val (levT T n) i (c - 1) = lev T n i (c - 1) := val_levT h1 hj
      have l1 := b.lt hj
      have l2 := b.gt hj
      rcases Int.lt_trichotomy (val T i (c - 1)) k with hv | hv | hv
      · rw [go_lt h1 h2 hv, go_lt h1' h2 (by rw [e]; exact l1.mpr hv), go_levT f (i + 1) c hc (fun _ _ => b.down hj hv)]
      · rw [go_eq h1 h2 hv, go_eq h1' h2 (by rw [e]; omega)]
      · rw [go_gt h1 h2 hv, go_gt h1' h2 (by rw [e]; exact l2.mpr hv), go_levT f i (c - 1) (by omega) (fun _ h3 => ?_)]
        obtain ⟨d, rfl⟩ : ∃ d, c = d + 2 := ⟨c - 2, by omega⟩
        exact Btw.left (j := d) b hj hv
    · rw [go_out h, go_out (by rw [levT_len]; exact h)]
theorem run_levT {T : Tab} {n : Nat} (t : IsTab T n) (k : Int) : run (levT T n) n k = run T n k := by
  unfold run
  rw [levT_len]
  refine go_levT _ 0 n (Nat.le_refl _) fun _ _ => ⟨fun a ha => ?_, fun a ha => ?_⟩
  · rw [lo_zero] at ha
    cases ha
  · have := t.npos
    unfold hiB at ha
    rw [if_neg (by omega)] at ha
    cases ha
theorem alk_lev {T U : Tab} {n : Nat} (t : IsTab T n) (u : IsTab U n) (h : levT T n = levT U n) (k : Int) : run T n k = run U n k := by
  rw [← run_levT t, ← run_levT u, h]
/-! ### one value changed -/
def setT (T : Tab) (i j : Nat) (x : Int) : Tab := T.set i ((T.getD i []).set j x)
theorem setT_len (T : Tab) (i j : Nat) (x : Int) : (setT T i j x).length = T.length := by simp [setT]
theorem setT_is {T : Tab} {n i j : Nat} {x : Int} (t : IsTab T n) (hi : i < T.length) : IsTab (setT T i j x) n := ⟨by rw [setT_len]; exact t.pos, by rw [setT_len]; exact t.le, t.npos, t.nle, fun r hr => by
  rcases List.mem_or_eq_of_mem_set hr with h | h
  · exact t.rows r h
  · rw [h, List.length_set, G.getD_at hi]
    exact t.row hi⟩
theorem val_setT {T : Tab} {n i j : Nat} {x : Int} (t : IsTab T n) (hi : i < T.length) (hj : j < n) (i' j' : Nat) : val (setT T i j x) i' j' = if i' = i ∧ j' = j then x else val T i' j' := by
  unfold val setT
  have hr := t.row hi
  simp only [List.getD_eq_getElem?_getD, List.getElem?_set, List.getElem?_eq_getElem hi, Option.getD_some]
  by_cases e : i = i'
  · subst e
    rw [if_pos rfl, if_pos hi]
    by_cases e2 : j = j'
    · subst e2
      simp [hi, hr, hj]
    · simp only [Option.getD_some, List.getElem?_set]
      rw [if_neg e2, if_neg (fun z => e2 z.2.symm)]
      simp [hi]
  · rw [if_neg e, if_neg (fun z => e z.1.symm)]
theorem lev_congr {A B : Tab} {n : Nat} : ∀ (s i j : Nat), i + (n - 1 - j) ≤ s → j < n → (∀ i' j', i' ≤ i → j ≤ j' → j' < n → val A i' j' = val B i' j') → lev A n i j = lev B n i j := by
  intro s
  induction s with
  | zero =>
    intro i j hs hj h
    have h0 : i = 0 := by omega
    subst h0
    rw [lev_eq A hj, lev_eq B hj, lo_zero, lo_zero, h 0 j (Nat.le_refl _) (Nat.le_refl _) hj]
    unfold hiB
    rw [if_neg (by omega), if_neg (by omega)]
  | succ s ih =>
    intro i j hs hj h
    have e1 : loB A n i j = loB B n i j := by
      cases i with
      | zero => rw [lo_zero, lo_zero]
      | succ i =>
        rw [lo_succ, lo_succ, ih i j (by omega) hj fun i' j' h1 h2 h3 => h i' j' (by omega) h2 h3]
    have e2 : hiB A n i j = hiB B n i j := by
      by_cases hj2 : j + 1 < n
      · rw [hi_some A hj2, hi_some B hj2, ih i (j + 1) (by omega) hj2 fun i' j' h1 h2 h3 => h i' j' h1 (by omega) h3]
      · unfold hiB
        rw [if_neg hj2, if_neg hj2]
    rw [lev_eq A hj, lev_eq B hj, e1, e2, h i j (Nat.le_refl _) (Nat.le_refl _) hj]
theorem lo_congr {A B : Tab} {n i j : Nat} (hj : j < n) (h : ∀ i' j', ¬ (i' = i ∧ j' = j) → val A i' j' = val B i' j') : loB A n i j = loB B n i j := by
  cases i with
  | zero => rw [lo_zero, lo_zero]
  | succ i => rw [lo_succ, lo_succ, lev_congr _ i j (Nat.le_refl _) hj fun i' j' h1 h2 h3 => h i' j' (by omega)]
theorem hi_congr {A B : Tab} {n i j : Nat} (h : ∀ i' j', ¬ (i' = i ∧ j' = j) → val A i' j' = val B i' j') : hiB A n i j = hiB B n i j := by
  by_cases hj2 : j + 1 < n
  · rw [hi_some A hj2, hi_some B hj2, lev_congr _ i (j + 1) (Nat.le_refl _) hj2 fun i' j' h1 h2 h3 => h i' j' (by omega)]
  · unfold hiB
    rw [if_neg hj2, if_neg hj2]
theorem lev_all {A B : Tab} {n i j : Nat} (h : ∀ i' j', ¬ (i' = i ∧ j' = j) → val A i' j' = val B i' j') (e : lev A n i j = lev B n i j) : ∀ (s i' j' : Nat), i' + (n - 1 - j') ≤ s → j' < n → lev A n i' j' = lev B n i' j' := by
  intro s
  induction s with
  | zero =>
    intro i' j' hs hj
    have h0 : i' = 0 := by omega
    subst h0
    by_cases z : 0 = i ∧ j' = j
    · obtain ⟨rfl, rfl⟩ := z
      exact e
    · rw [lev_eq A hj, lev_eq B hj, lo_zero, lo_zero, h 0 j' z]
      unfold hiB
      rw [if_neg (by omega), if_neg (by omega)]
  | succ s ih =>
    intro i' j' hs hj
    by_cases z : i' = i ∧ j' = j
    · obtain ⟨rfl, rfl⟩ := z
      exact e
    have e1 : loB A n i' j' = loB B n i' j' := by
      cases i' with
      | zero => rw [lo_zero, lo_zero]
      | succ i' => rw [lo_succ, lo_succ, ih i' j' (by omega) hj]
    have e2 : hiB A n i' j' = hiB B n i' j' := by
      by_cases hj2 : j' + 1 < n
      · rw [hi_some A hj2, hi_some B hj2, ih i' (j' + 1) (by omega) hj2]
      · unfold hiB
        rw [if_neg hj2, if_neg hj2]
    rw [lev_eq A hj, lev_eq B hj, e1, e2, h i' j' z]
theorem levT_set {T : Tab} {n i j : Nat} {x : Int} (t : IsTab T n) (hi : i < T.length) (hj : j < n) : levT T n = levT (setT T i j x) n ↔ mid (val T i j) (loB T n i j) (hiB T n i j) = mid x (loB T n i j) (hiB T n i j) := by
  have hv : ∀ i' j', ¬ (i' = i ∧ j' = j) → val T i' j' = val (setT T i j x) i' j' := fun i' j' h => by rw [val_setT t hi hj, if_neg h]
  have u := setT_is (j := j) (x := x) t hi
  have e2 : lev (setT T i j x) n i j = mid x (loB T n i j) (hiB T n i j) := by rw [lev_eq _ hj, val_setT t hi hj, if_pos ⟨rfl, rfl⟩, ← lo_congr hj hv, ← hi_congr hv]
  constructor
  · intro h
    have z := congrArg (fun A => val A i j) h
    have z : val (levT T n) i j = val (levT (setT T i j x) n) i j := z
    rw [val_levT hi hj, val_levT (by rw [setT_len]; exact hi) hj, lev_eq T hj, e2] at z
    exact z
  · intro h
    refine tab_ext (levT_is t).rows (levT_is u).rows (by rw [levT_len, levT_len, setT_len]) fun i' j' h1 h2 => ?_
    rw [levT_len] at h1
    rw [val_levT h1 h2, val_levT (by rw [setT_len]; exact h1) h2]
    exact lev_all hv (by rw [lev_eq T hj, e2]; exact h) _ i' j' (Nat.le_refl _) h2
theorem lo_le_hi {T : Tab} {n i j : Nat} {a c : Int} (hj : j < n) (h1 : loB T n i j = some a) (h2 : hiB T n i j = some c) : a ≤ c := by
  cases i with
  | zero => rw [lo_zero] at h1; cases h1
  | succ i =>
    by_cases hj2 : j + 1 < n
    · rw [lo_succ] at h1
      rw [hi_some T hj2] at h2
      have a1 := lev_right T hj2 i
      have a2 := lev_down T hj2 (i := i)
      cases h1
      cases h2
      omega
    · unfold hiB at h2
      rw [if_neg hj2] at h2
      cases h2
/-- whether the levels stay -/
def loLe (v x : Int) : Option Int → Bool
  | none => false
  | some a => decide (v ≤ a ∧ x ≤ a)
def hiGe (v x : Int) : Option Int → Bool
  | none => false
  | some c => decide (c ≤ v ∧ c ≤ x)
def stB (lo hi : Option Int) (v x : Int) : Bool := decide (lo.isSome = true ∧ lo = hi) || decide (v = x) || loLe v x lo || hiGe v x hi
theorem mid_stB {lo hi : Option Int} {v x : Int} (h : ∀ a c, lo = some a → hi = some c → a ≤ c) : mid v lo hi = mid x lo hi ↔ stB lo hi v x = true := by
  unfold mid stB midL midH loLe hiGe
  cases lo with
  | none =>
    cases hi with
    | none => simp
    | some c =>
      simp only [Option.isSome_none, Bool.false_eq_true, false_and, decide_false, Bool.false_or, Bool.or_false, Bool.or_eq_true, decide_eq_true_eq]
      split <;> split <;> omega
  | some a =>
    cases hi with
    | none =>
      simp only [Option.isSome_some, true_and, reduceCtorEq, decide_false, Bool.false_or, Bool.or_false, Bool.or_eq_true, decide_eq_true_eq]
      split <;> split <;> omega
    | some c =>
      have := h a c rfl rfl
      simp only [Option.isSome_some, true_and, Option.some.injEq, Bool.or_eq_true, decide_eq_true_eq]
      split <;> split <;> (try split) <;> (try split) <;> omega
theorem mid_mid {lo hi : Option Int} {v : Int} (h : ∀ a c, lo = some a → hi = some c → a ≤ c) : mid (mid v lo hi) lo hi = mid v lo hi := by
  unfold mid midL midH
  cases lo with
  | none =>
    cases hi with
    | none => rfl
    | some c =>
      dsimp only
      repeat' split
      all_goals omega
  | some a =>
    cases hi with
    | none =>
      dsimp only
      repeat' split
      all_goals omega
    | some c =>
      have := h a c rfl rfl
      dsimp only
      repeat' split
      all_goals omega
theorem lev_lev {T : Tab} {n : Nat} (t : IsTab T n) : ∀ (s i j : Nat), i + (n - 1 - j) ≤ s → i < T.length → j < n → lev (levT T n) n i j = lev T n i j := by
  intro s
  induction s with
  | zero =>
    intro i j hs hi hj
    have h0 : i = 0 := by omega
    subst h0
    have e : hiB (levT T n) n 0 j = hiB T n 0 j := by
      unfold hiB
      rw [if_neg (by omega), if_neg (by omega)]
    rw [lev_eq _ hj, e, lo_zero, val_levT hi hj, lev_eq T hj, lo_zero]
    exact mid_mid fun a c h => by cases h
  | succ s ih =>
    intro i j hs hi hj
    have e1 : loB (levT T n) n i j = loB T n i j := by
      cases i with
      | zero => rw [lo_zero, lo_zero]
      | succ i => rw [lo_succ, lo_succ, ih i j (by omega) (by omega) hj]
    have e2 : hiB (levT T n) n i j = hiB T n i j := by
      by_cases hj2 : j + 1 < n
      · rw [hi_some _ hj2, hi_some T hj2, ih i (j + 1) (by omega) hi hj2]
      · unfold hiB
        rw [if_neg hj2, if_neg hj2]
    rw [lev_eq _ hj, e1, e2, val_levT hi hj, lev_eq T hj]
    exact mid_mid fun a c => lo_le_hi hj
theorem levT_levT {T : Tab} {n : Nat} (t : IsTab T n) : levT (levT T n) n = levT T n := by
  have t' := levT_is t
  refine tab_ext (levT_is t').rows t'.rows (by rw [levT_len]) fun i j h1 h2 => ?_
  rw [levT_len, levT_len] at h1
  rw [val_levT h1 h2, val_levT (by rw [levT_len]; exact h1) h2]
  exact lev_lev t _ i j (Nat.le_refl _) h1 h2
/-! ### where a search ends within the table, there stands its key -/
theorem go_end_val {T : Tab} {k : Int} {x y : Nat} : ∀ (f i c : Nat), (T.length - i) + c ≤ f → i ≤ T.length → (go T k f i c).2 = ((x : Int), (y : Int)) → x < T.length → val T x y = k
  | 0, i, c, hf, hi, h, hx => by
    have h : ((i : Int), (c : Int) - 1) = ((x : Int), (y : Int)) := h
    injection h with h1 h2
    omega
  | f + 1, i, c, hf, hi, h, hx => by
    by_cases hb : i < T.length ∧ 0 < c
    · obtain ⟨h1, h2⟩ := hb
      rcases Int.lt_trichotomy (val T i (c - 1)) k with hv | hv | hv
      · rw [go_lt h1 h2 hv] at h
        exact go_end_val f (i + 1) c (by omega) (by omega) h hx
      · rw [go_eq h1 h2 hv] at h
        have h : ((i : Int), (c : Int) - 1) = ((x : Int), (y : Int)) := h
        injection h with g1 g2
        have e1 : i = x := by omega
        have e2 : c - 1 = y := by omega
        rw [← e1, ← e2]
        exact hv
      · rw [go_gt h1 h2 hv] at h
        exact go_end_val f i (c - 1) (by omega) hi h hx
    · rw [go_out hb] at h
      have h : ((i : Int), (c : Int) - 1) = ((x : Int), (y : Int)) := h
      injection h with g1 g2
      exact absurd ⟨by omega, by omega⟩ hb
theorem run_end_val {T : Tab} {n : Nat} {k : Int} {x y : Nat} (h : (run T n k).2 = ((x : Int), (y : Int))) (hx : x < T.length) : val T x y = k := go_end_val _ 0 n (by omega) (Nat.zero_le _) h hx
/-- a found value that is changed parts the tables, at it or before -/
theorem part_found {T : Tab} {n i j : Nat} {x : Int} {r : Option Int} (t : IsTab T n) (hi : i < T.length) (hj : j < n) (hf : isF T n i j = true) (hx : val T i j ≠ x) (h : Part T n (setT T i j x) n r) : ∃ k, r = some k ∧ k ≤ val T i j := by
  have hn : ¬ Alk T n (setT T i j x) n (val T i j) := fun z => by
    have z : (run T n (val T i j)).2 = (run (setT T i j x) n (val T i j)).2 := z
    rw [of_decide_eq_true hf] at z
    have e := run_end_val z.symm (by rw [setT_len]; exact hi)
    rw [val_setT t hi hj, if_pos ⟨rfl, rfl⟩] at e
    exact hx e.symm
  cases r with
  | none => exact absurd (h _) hn
  | some k =>
    refine ⟨k, rfl, ?_⟩
    rcases Int.lt_or_le (val T i j) k with z | z
    · exact absurd (h.2 _ z) hn
    · exact z
theorem part_lev {T U : Tab} {n : Nat} {r : Option Int} (t : IsTab T n) (u : IsTab U n) (h : levT T n = levT U n) (hp : Part T n U n r) : r = none := part_uniq hp (fun k => by show (run T n k).2 = (run U n k).2; rw [alk_lev t u h k])
end G

namespace G
open PySem PySem.Spec PyProof.Rows L2
section
variable {X : Cx} {ρ : List SD} {M : Mem} {Q : Kn} {pos : Pos} {elt : Expr} {scope : Scope} {t : Tg} {vs : List Nat}
/-- [list(row) for row in table] -/
theorem lc_rows (T : Tab) (hT : T.length ≤ 1000) (turn : ∀ i (hi : i < T.length), ∃ ρ2, t.put (wipeR ρ vs) (.pu (rowD T[i])) = some ρ2 ∧ ∀ Y, Blk X scope Y → ∀ (M' : Mem) (Q' : Kn), (∀ l, Q' (.rf (.ref l)) ((l, .lst (pints T[i])) :: M')) → GE Y ρ2 M' elt Q')
    (fin : ∀ l (rows : List (Addr × List Int)) (M' : Mem), rows.map (·.2) = T → M'.Perm (rows.map rowM ++ M) → Q (.rf (.ref l)) ((l, .lst (rows.map rowR)) :: M')) : LComp X scope ρ vs t [] elt Q (T.map rowD).length (nth (T.map rowD)) M := by
  rw [List.length_map]
  refine ⟨by omega, fun i acc M' => ∃ rows : List (Addr × List Int), acc = rows.map rowR ∧ rows.map (·.2) = T.take i ∧ M'.Perm (rows.map rowM ++ M), ⟨[], rfl, rfl, .refl _⟩, fun i acc M' hi _ h => ?_, fun acc M' hal h l => ?_⟩
  · obtain ⟨rows, rfl, h2, h3⟩ := h
    rw [nth_map rowD [] hi, G.getD_at hi]
    obtain ⟨ρ2, e, tn⟩ := turn i hi
    refine ⟨ρ2, e, fun Y hY => gts_nil (iteT fun Y2 hY2 => tn Y2 hY2 _ _ fun l => ⟨rows ++ [(l, T[i])], ?_, ?_, ?_⟩)⟩
    · rw [List.map_append]
      rfl
    · rw [List.map_append, h2, List.take_add_one, List.getElem?_eq_getElem hi]
      rfl
    · rw [List.map_append, List.append_assoc]
      have h4 : ((l, MO.lst (pints T[i])) :: M').Perm ((l, MO.lst (pints T[i])) :: (rows.map rowM ++ M)) := List.Perm.cons _ h3
      refine h4.trans ?_
      show ((l, MO.lst (pints T[i])) :: (rows.map rowM ++ M)).Perm (rows.map rowM ++ ((l, MO.lst (pints T[i])) :: M))
      exact List.perm_middle.symm
  · obtain ⟨rows, rfl, h2, h3⟩ := h
    rw [List.take_length] at h2
    exact fin l rows M' h2 h3
end
theorem pick_mem {xs : List SD} (n : Nat) (h : 0 < xs.length) : ∃ r, atI xs ((n : Int) % (xs.length : Int)) = some r ∧ r ∈ xs := by
  have hl : n % xs.length < xs.length := Nat.mod_lt n h
  refine ⟨xs[n % xs.length], ?_, List.getElem_mem hl⟩
  rw [show (n : Int) % (xs.length : Int) = ((n % xs.length : Nat) : Int) by rw [Int.natCast_emod]]
  exact atI_nat (List.getElem?_eq_getElem hl)
theorem rows_set {T : Tab} {rows : List (Addr × List Int)} {i j : Nat} {x : Int} (e : rows.map (·.2) = T) (hi : i < rows.length) : ∃ R1 d R2, rows = R1 ++ d :: R2 ∧ R1.length = i ∧ rows[i] = d ∧ (R1 ++ (d.1, d.2.set j x) :: R2).map (·.2) = setT T i j x := by
  obtain ⟨R1, R2, eR, lR⟩ := rows_cut rows hi
  refine ⟨R1, rows[i], R2, eR, lR, rfl, ?_⟩
  have hiT : i < T.length := by rw [← e, List.length_map]; exact hi
  have e2 : T[i] = rows[i].2 := by subst e; rw [List.getElem_map]
  unfold setT
  rw [G.getD_at hiT, e2]
  generalize rows[i] = d at eR
  subst eR
  rw [← e, List.map_append, List.map_append, List.map_cons, List.map_cons, ← lR]
  have e3 : R1.length = (R1.map (·.2)).length := by rw [List.length_map]
  rw [e3, List.set_append_right _ _ (Nat.le_refl _), Nat.sub_self]
  rfl
theorem eqv_bool (a b : Bool) : PyData.eqv (.bool a) (.bool b) = decide (a = b) := by cases a <;> cases b <;> rfl
theorem eqv_tab (A B : Tab) : PyData.eqv (tab A) (tab B) = decide (A = B) := by
  have hr : ∀ r s : List Int, PyData.eqvAll (r.map .int) (s.map .int) = decide (r = s) := by
    intro r
    induction r with
    | nil => intro s; cases s <;> simp [PyData.eqvAll]
    | cons x r ih =>
      intro s
      cases s with
      | nil => simp [PyData.eqvAll]
      | cons y s =>
        simp only [List.map_cons, PyData.eqvAll, ih, eqv_int]
        by_cases h1 : x = y <;> by_cases h2 : r = s <;> simp [h1, h2]
  have h : ∀ A B : Tab, PyData.eqvAll (A.map rowD) (B.map rowD) = decide (A = B) := by
    intro A
    induction A with
    | nil => intro B; cases B <;> simp [PyData.eqvAll]
    | cons r A ih =>
      intro B
      cases B with
      | nil => simp [PyData.eqvAll]
      | cons s B =>
        have e : PyData.eqv (rowD r) (rowD s) = decide (r = s) := by
          show PyData.eqv (.list _) (.list _) = _
          simp only [PyData.eqv]
          exact hr r s
        simp only [List.map_cons, PyData.eqvAll, ih, e]
        by_cases h1 : r = s <;> by_cases h2 : A = B <;> simp [h1, h2]
  show PyData.eqv (.list _) (.list _) = _
  simp only [PyData.eqv]
  exact h A B
end G

namespace G
open PySem PySem.Spec PyProof.Rows L2
/-! ### written data -/
def litL (g : Expr → Option PyData) : List Expr → Option (List PyData)
  | [] => some []
  | e :: es => match g e, litL g es with
    | some d, some ds => some (d :: ds)
    | _, _ => none
def litD : Nat → Expr → Option PyData
  | 0, _ => none
  | f + 1, e => match e with
    | .Constant (.int i) _ _ => some (.int i)
    | .Constant (.bool b) _ _ => some (.bool b)
    | .Constant .none _ _ => some .none
    | .Constant (.str x) _ _ => some (.str x)
    | .UnaryOp .USub (.Constant (.int i) _ _) _ => some (.int (-i))
    | .List es _ => match litL (litD f) es with
      | some ds => if ds.length ≤ 1000 then some (.list ds) else none
      | none => none
    | .Tuple es _ _ => match litL (litD f) es with
      | some ds => if ds.length ≤ 1000 then some (.tuple ds) else none
      | none => none
    | _ => none
def plainE : Expr → Bool
  | .Starred _ _ => false
  | _ => true
theorem lit_plain {f : Nat} {e : Expr} {d : PyData} (h : litD f e = some d) : plainE e = true := by
  cases f with
  | zero => cases h
  | succ f => cases e <;> first | rfl | cases h
theorem star_plain {e : Expr} (h : plainE e = true) (es : List Expr) (env : Env) : starEach (e :: es) env = (false, eval e env) :: starEach es env := by
  cases e <;> first | rfl | cases h
theorem glit_all {X : Cx} {ρ : List SD} {f : Nat} (ih : ∀ (e : Expr) (d : PyData), litD f e = some d → ∀ (M : Mem) (Q : Kn), Q (.pu d) M → GE X ρ M e Q) : ∀ (es : List Expr) (ds : List PyData), litL (litD f) es = some ds → ∀ (M : Mem) (QA : List SD → Mem → Prop), QA (ds.map .pu) M → GA X ρ M es QA
  | [], ds, h, M, QA, q => by
    cases h
    exact anil q
  | e :: es, ds, h, M, QA, q => by
    unfold litL at h
    cases h1 : litD f e with
    | none =>
      rw [h1] at h
      cases h
    | some d =>
      cases h2 : litL (litD f) es with
      | none =>
        rw [h1, h2] at h
        cases h
      | some ds' =>
        rw [h1, h2] at h
        cases h
        exact acons (ih e d h1 M _ (glit_all ih es ds' h2 M _ q)) (star_plain (lit_plain h1) es X.env)
theorem glitN {X : Cx} {ρ : List SD} : ∀ (f : Nat) (e : Expr) (d : PyData), litD f e = some d → ∀ (M : Mem) (Q : Kn), Q (.pu d) M → GE X ρ M e Q
  | 0, e, d, h, M, Q, q => by cases h
  | f + 1, e, d, h, M, Q, q => by
    have ih := glitN (X := X) (ρ := ρ) f
    unfold litD at h
    split at h
    · cases h; exact gi q
    · cases h; exact gbl q
    · cases h; exact gnon q
    · cases h; exact gstr q
    · cases h; exact gneg (gi ⟨_, rfl, q⟩)
    · next es p =>
      cases h2 : litL (litD f) es with
      | none => rw [h2] at h; cases h
      | some ds =>
        rw [h2] at h
        dsimp only at h
        split at h
        · next hl =>
          cases h
          exact gz (glst (glit_all ih es ds h2 M _ ⟨by rw [List.length_map]; omega, fun l => ⟨l, ds, M, rfl, rfl, q⟩⟩))
        · cases h
    · next es k p =>
      cases h2 : litL (litD f) es with
      | none => rw [h2] at h; cases h
      | some ds =>
        rw [h2] at h
        dsimp only at h
        split at h
        · next hl =>
          cases h
          exact gtup (glit_all ih es ds h2 M _ ⟨ds, rfl, by omega, q⟩)
        · cases h
    · cases h
theorem hfs_list {elts : List Expr} {p : Pos} {env : Env} : ∀ x, foldedSetIterable (.List elts p) env x = pure x := fun _ => rfl
/-- written data as a value -/
theorem glit {X : Cx} {ρ : List SD} {M : Mem} {Q : Kn} {e : Expr} (d : PyData) (h : litD 6 e = some d) (q : Q (.pu d) M) : GE X ρ M e Q := glitN 6 e d h M Q q
end G

namespace G
open PySem PySem.Spec PyProof.Rows L2
/-! ### min(rows, key=len): the first of the shortest -/
/-- place i is that of the first shortest one below m -/
def Best (rows : List (List Value)) (m i : Nat) : Prop := ∃ r, rows[i]? = some r ∧ i < m ∧ ∀ (j : Nat) (t : List Value), j < m → rows[j]? = some t → r.length ≤ t.length ∧ (j < i → r.length < t.length)
structure RowsIn (h : Heap) (as : List Addr) (rows : List (List Value)) : Prop where
  len : as.length = rows.length
  at_ : ∀ (j : Nat) (a : Addr) (r : List Value), as[j]? = some a → rows[j]? = some r → LAt h a r
  fit : ∀ r ∈ rows, r.length ≤ sizeLine
theorem RowsIn.keep {h h' : Heap} {as : List Addr} {rows : List (List Value)} (x : RowsIn h as rows) (k : ∀ a ∈ as, ∀ o, h.get? a = some o → h'.get? a = some o) : RowsIn h' as rows :=
  ⟨x.len, fun j a r h1 h2 => (x.at_ j a r h1 h2).keep (k a (List.mem_of_getElem? h1)), x.fit⟩
section
variable {prog : Program} {w : World} {A : Around} {E : Value → Shared → Prop}
theorem len_turn {s : Shared} {a : Addr} {r : List Value} {Q : Value → Shared → Prop} (hl : LAt s.heap a r) (hz : r.length ≤ sizeLine) (q : ∀ t, Q (.int (r.length : Int) t) { s with toks := s.toks + 1 + 1 }) : wpAny (model prog w) A (call (.builtin "len") [.ref a]) Q E s := by
  have z := line63
  refine Calls.call_len_list hl.isList (by simp only [List.size_toArray]; omega) ?_
  rw [List.size_toArray]
  exact q _
/-- where the loop stands: m rows looked at, the best is at i -/
structure Mid (h0 h : Heap) (l I S : Addr) (as : List Addr) (rows : List (List Value)) (m i : Nat) : Prop where
  keep : ∀ b o, h0.get? b = some o → h.get? b = some o
  it : h.IsListIter I l m
  box : ∃ a r t c, as[i]? = some a ∧ rows[i]? = some r ∧ h.get? S = some (seqObj "list" #[.ref a, .int (r.length : Int) t] c)
  best : Best rows m i
theorem min_go (hh : A.handled = none) {s : Shared} {l I S : Addr} {as : List Addr} {rows : List (List Value)} {R : Result → Shared → Prop} (hI : s.heap.get? I = none) (hS : s.heap.get? S = none) (hIS : S ≠ I) (ll : LAt s.heap l (as.map Value.ref)) (rr : RowsIn s.heap as rows)
    (fin : ∀ i a h' tk, as[i]? = some a → Best rows rows.length i → (∀ b o, s.heap.get? b = some o → h'.get? b = some o) → R (.ok (.ret (.ref a))) { s with heap := h', toks := tk }) :
    ∀ (d m i : Nat) (h : Heap) (tk : Nat), m + d = rows.length → Mid s.heap h l I S as rows m i → codeAny (model prog w) A (.builtin "min.loop" ⟨[.ref I, .builtin "len", .ref S], []⟩) R { s with heap := h, toks := tk } := by
  have nm : (toString "min" ++ toString ".loop" : String) = "min.loop" := by decide
  have walk := Walks.list (prog := prog) (w := w) (A := A.in1) hh I l (fun e => by rw [e] at ll; obtain ⟨n, z⟩ := ll; rw [hI] at z; cases z) (as.map Value.ref).toArray
  have sz : (as.map Value.ref).toArray.size = rows.length := by rw [List.size_toArray, List.length_map, rr.len]
  have off : ∀ {b : Addr} {o : Obj}, s.heap.get? b = some o → b ≠ I ∧ b ≠ S := fun {b o} e => ⟨fun z => (by rw [z, hI] at e; cases e), fun z => (by rw [z, hS] at e; cases e)⟩
  intro d
  induction d with
  | zero =>
    intro m i h tk hd st
    obtain ⟨a, r, t, c, ha, hr, hb⟩ := st.box
    have em : m = rows.length := hd
    refine codeAny_builtin PySem.F.entry_min_loop ?_
    rw [Around.under_plainId PySem.F.plain_min_loop _]
    show wpAny _ (A.in1) (seqItems? (Value.ref S) >>= _) _ _ _
    refine wpAny_bind (wpAny_seqItems hb rfl ?_)
    show wpAny _ (A.in1) (tryCatch (pyNext (Value.ref I)) _ >>= _) _ _ _
    refine wpAny_bind (wpAny_tryCatch (walk.done _ _ _ ⟨(by rw [sz, ← em]; exact st.it), (ll.keep fun o => st.keep l o).isList⟩ fun h1 tk1 k1 => ?_))
    have b1 := k1 S _ (by simpa using hIS) hb
    have sb := Heap.SameBut.update h1 S (Obj.mapSeq fun _ => (#[] : Array Value))
    show wpAny _ (A.in1) (updateSeq S (fun _ => #[]) >>= _) _ _ _
    refine wpAny_bind (wpAny_updateSeq b1 rfl (wpAny_bind (wpAny_letGo (wpAny_pure ?_))))
    exact fin i a _ _ ha (em ▸ st.best) fun b o e => (sb.2 b (off e).2).trans (k1 b o (by simpa using (off e).1) (st.keep b o e))
  | succ d ih =>
    intro m i h tk hd st
    obtain ⟨a, r, t, c, ha, hr, hb⟩ := st.box
    have hm : m < rows.length := by omega
    have hma : m < as.length := by rw [rr.len]; exact hm
    refine codeAny_builtin PySem.F.entry_min_loop ?_
    rw [Around.under_plainId PySem.F.plain_min_loop _]
    show wpAny _ (A.in1) (seqItems? (Value.ref S) >>= _) _ _ _
    refine wpAny_bind (wpAny_seqItems hb rfl ?_)
    show wpAny _ (A.in1) (tryCatch (pyNext (Value.ref I)) _ >>= _) _ _ _
    refine wpAny_bind (wpAny_tryCatch (walk.item m _ _ _ (by rw [sz]; exact hm) ⟨st.it, (ll.keep fun o => st.keep l o).isList⟩ fun v h1 tk1 gv st1 k1 => ?_))
    have ev : v = Value.ref as[m] := by
      have gv : (as.map Value.ref).toArray[m]? = some v := gv
      simp [hma] at gv
      exact gv.symm
    subst ev
    obtain ⟨oI, gI, cI, dI⟩ := id st1.1
    have b1 := k1 S _ (by simpa using hIS) hb
    have kp1 : ∀ b o, s.heap.get? b = some o → h1.get? b = some o := fun b o e => k1 b o (by simpa using (off e).1) (st.keep b o e)
    have er : rows[m]? = some rows[m] := List.getElem?_eq_getElem hm
    have ea : as[m]? = some as[m] := List.getElem?_eq_getElem hma
    show wpAny _ (A.in1) (tryCatch (holding [Value.ref as[m]] (call (Value.builtin "len") [Value.ref as[m]])) _ >>= _) _ _ _
    refine wpAny_bind (wpAny_tryCatch (wpAny_holding (len_turn (r := rows[m]) ((rr.at_ m _ _ ea er).keep fun o => kp1 _ o) (rr.fit _ (List.getElem_mem hm)) fun t2 => ?_)))
    show wpAny _ (A.in1) (tryCatch (holding [Value.ref as[m], Value.int (rows[m].length : Int) t2] (richCompare .Lt (Value.int (rows[m].length : Int) t2) (Value.int (r.length : Int) t) >>= _)) _ >>= _) _ _ _
    refine wpAny_bind (wpAny_tryCatch (wpAny_holding (wpAny_bind (CmpOf.ints_lt (prog := prog) (w := w) (A := A.in1) (P := fun (x : Nat) v => ∃ t, v = Value.int (x : Int) t) (fun x : Nat => (x : Int)) (fun x v h => h) rows[m].length r.length _ _ _ _ _ ⟨t2, rfl⟩ ⟨t, rfl⟩ ?_))))
    refine wpAny_bind (wpAny_holding (wpAny_truthy_bool (wpAny_bind (wpAny_letGo (wpAny_pure ?_)))))
    obtain ⟨r', hr', hi', hbest⟩ := st.best
    have e' : r' = r := Option.some.inj (hr'.symm.trans hr)
    subst e'
    by_cases less : (rows[m].length : Int) < (r'.length : Int)
    · have sb := Heap.SameBut.update h1 S (Obj.mapSeq fun _ => #[Value.ref as[m], Value.int (rows[m].length : Int) t2])
      simp only [less, decide_true, if_true]
      refine wpAny_bind (wpAny_updateSeq b1 rfl (wpAny_bind (wpAny_letGo ?_)))
      rw [nm]
      refine wpAny_pure ⟨plainId_quiet PySem.F.plain_min_loop _, ih (m + 1) m _ _ (by omega) ⟨fun b o e => (sb.2 b (off e).2).trans (kp1 b o e), ⟨oI, (sb.2 I hIS.symm).trans gI, cI, dI⟩, ⟨_, _, t2, _, ea, er, get?_update_seq b1 fun _ => #[Value.ref as[m], Value.int (rows[m].length : Int) t2]⟩, rows[m], er, Nat.lt_succ_self m, fun j u hj hu => ?_⟩⟩
      by_cases ej : j = m
      · subst ej
        have eu : rows[j] = u := Option.some.inj (er.symm.trans hu)
        rw [eu]
        exact ⟨Nat.le_refl _, fun z => absurd z (Nat.lt_irrefl _)⟩
      · have z := (hbest j u (by omega) hu).1
        exact ⟨by omega, fun _ => by omega⟩
    · simp only [less, decide_false, Bool.false_eq_true, if_false]
      refine wpAny_bind (wpAny_letGo ?_)
      rw [nm]
      refine wpAny_pure ⟨plainId_quiet PySem.F.plain_min_loop _, ih (m + 1) i _ _ (by omega) ⟨kp1, ⟨oI, gI, cI, dI⟩, ⟨a, r', t, c, ha, hr, b1⟩, r', hr, by omega, fun j u hj hu => ?_⟩⟩
      by_cases ej : j = m
      · subst ej
        have eu : rows[j] = u := Option.some.inj (er.symm.trans hu)
        rw [← eu]
        exact ⟨by omega, fun z => by omega⟩
      · exact hbest j u (by omega) hu
theorem min_len (hh : A.handled = none) {s : Shared} {l : Addr} {as : List Addr} {rows : List (List Value)} {Q : Value → Shared → Prop} (ll : LAt s.heap l (as.map Value.ref)) (rr : RowsIn s.heap as rows) (h0 : 0 < rows.length)
    (fin : ∀ i a h' tk, as[i]? = some a → Best rows rows.length i → (∀ b o, s.heap.get? b = some o → h'.get? b = some o) → Q (.ref a) { s with heap := h', toks := tk }) :
    wpAny (model prog w) A (call (.builtin "min") [.ref l] [(Str.ofString "key", .builtin "len")]) Q E s := by
  have nm : (toString "min" ++ toString ".loop" : String) = "min.loop" := by decide
  refine kmb_tree PySem.F.kind_min PySem.F.plain_min PySem.F.entry_min (kmb_min_key _ _) ?_
  show wpAny _ (A.in1) (Builtin.Builtins.bindParams "min" ["key", "default"] 0 ⟨[], [(Str.ofString "key", Value.builtin "len")]⟩ >>= _) _ _ s
  refine wpAny_bind (wpAny_of_eq (show Builtin.Builtins.bindParams "min" ["key", "default"] 0 ⟨[], [(Str.ofString "key", Value.builtin "len")]⟩ = pure [some (Value.builtin "len"), none] from rfl) ?_)
  refine wpAny_bind (wpAny_pure (wpAny_bind (wpAny_pyIter_list ll.isList (wpAny_bind (wpAny_newList ?_ (Nat.zero_le _))))))
  rw [nm]
  have hma : 0 < as.length := by rw [rr.len]; exact h0
  generalize eI : s.heap.objs.size = I
  have e1 : (s.heap.push { cls := .type "list_iterator", data := .fields #[.ref l, .int 0 0] }).objs.size = I + 1 := by rw [size_push', eI]
  have gI0 : (s.heap.push { cls := .type "list_iterator", data := .fields #[.ref l, .int 0 0] }).get? I = some { cls := .type "list_iterator", data := .fields #[.ref l, .int 0 0] } := by
    rw [← eI]
    exact Heap.get?_push_size _ rfl
  rw [e1]
  generalize hh0 : (s.heap.push { cls := .type "list_iterator", data := .fields #[.ref l, .int 0 0] }) = hp at e1 gI0
  have hpk : ∀ b o, s.heap.get? b = some o → hp.get? b = some o := fun b o e => by
    rw [← hh0]
    exact Heap.get?_push_of_some _ e
  generalize hh1 : hp.push (seqObj "list" #[] 0) = hq
  have hqk : ∀ b o, hp.get? b = some o → hq.get? b = some o := fun b o e => by
    rw [← hh1]
    exact Heap.get?_push_of_some _ e
  have gS : hq.get? (I + 1) = some (seqObj "list" #[] 0) := by
    rw [← hh1, ← e1]
    exact Heap.get?_push_size _ rfl
  have gI := hqk I _ gI0
  have nI : s.heap.get? I = none := Heap.get?_none_of_le (by rw [eI]; exact Nat.le_refl I)
  have nS : s.heap.get? (I + 1) = none := Heap.get?_none_of_le (by rw [eI]; exact Nat.le_succ I)
  have hIS : I + 1 ≠ I := Nat.succ_ne_self I
  have off : ∀ {b : Addr} {o : Obj}, s.heap.get? b = some o → b ≠ I ∧ b ≠ I + 1 := fun {b o} e => ⟨fun z => (by rw [z, nI] at e; cases e), fun z => (by rw [z, nS] at e; cases e)⟩
  have walk := Walks.list (prog := prog) (w := w) (A := A.in1) hh I l (off ll.choose_spec).1 (as.map Value.ref).toArray
  have sz : (as.map Value.ref).toArray.size = rows.length := by rw [List.size_toArray, List.length_map, rr.len]
  refine wpAny_pure ⟨plainId_quiet PySem.F.plain_min_loop _, ?_⟩
  refine codeAny_builtin PySem.F.entry_min_loop ?_
  rw [Around.under_plainId PySem.F.plain_min_loop _]
  show wpAny _ (A.in1) (seqItems? (Value.ref (I + 1)) >>= _) _ _ _
  refine wpAny_bind (wpAny_seqItems gS rfl ?_)
  show wpAny _ (A.in1) (tryCatch (pyNext (Value.ref I)) _ >>= _) _ _ _
  refine wpAny_bind (wpAny_tryCatch (walk.item 0 _ _ _ (by rw [sz]; exact h0) ⟨⟨_, gI, rfl, rfl⟩, (ll.keep fun o e => hqk _ o (hpk _ o e)).isList⟩ fun v h1 tk1 gv st1 k1 => ?_))
  have ev : v = Value.ref as[0] := by
    have gv : (as.map Value.ref).toArray[0]? = some v := gv
    simp [hma] at gv
    exact gv.symm
  subst ev
  obtain ⟨oI, g2, cI, dI⟩ := id st1.1
  have b1 := k1 (I + 1) _ (by simpa using hIS) gS
  have kp1 : ∀ b o, s.heap.get? b = some o → h1.get? b = some o := fun b o e => k1 b o (by simpa using (off e).1) (hqk b o (hpk b o e))
  have er : rows[0]? = some rows[0] := List.getElem?_eq_getElem h0
  have ea : as[0]? = some as[0] := List.getElem?_eq_getElem hma
  show wpAny _ (A.in1) (tryCatch (holding [Value.ref as[0]] (call (Value.builtin "len") [Value.ref as[0]])) _ >>= _) _ _ _
  refine wpAny_bind (wpAny_tryCatch (wpAny_holding (len_turn (r := rows[0]) ((rr.at_ 0 _ _ ea er).keep fun o => kp1 _ o) (rr.fit _ (List.getElem_mem h0)) fun t2 => ?_)))
  have sb := Heap.SameBut.update h1 (I + 1) (Obj.mapSeq fun _ => #[Value.ref as[0], Value.int (rows[0].length : Int) t2])
  show wpAny _ (A.in1) (updateSeq (I + 1) (fun _ => #[Value.ref as[0], Value.int (rows[0].length : Int) t2]) >>= _) _ _ _
  refine wpAny_bind (wpAny_updateSeq b1 rfl ?_)
  rw [nm]
  refine wpAny_pure ⟨plainId_quiet PySem.F.plain_min_loop _, min_go hh nI nS hIS ll rr fin (rows.length - 1) 1 0 _ _ (by omega) ⟨fun b o e => (sb.2 b (off e).2).trans (kp1 b o e), ⟨oI, (sb.2 I hIS.symm).trans g2, cI, dI⟩, ⟨_, _, t2, _, ea, er, get?_update_seq b1 fun _ => #[Value.ref as[0], Value.int (rows[0].length : Int) t2]⟩, rows[0], er, Nat.lt_succ_self 0, fun j u hj hu => ?_⟩⟩
  have ej : j = 0 := by omega
  subst ej
  rw [Option.some.inj (er.symm.trans hu)]
  exact ⟨Nat.le_refl _, fun z => absurd z (Nat.lt_irrefl _)⟩
end
end G
namespace G
open PySem PySem.Spec PyProof.Rows L2
section
variable {X : Cx} {ρ : List SD} {M : Mem} {Q : Kn} {pos p p2 kp : Pos} {e : Expr}
abbrev RowsV (H : Hp) (as : List Addr) (rows : List (List V)) : Prop := Paired (fun (a : Addr) r => H a = some (HO.lst r)) as rows
theorem rowsIn_of {pins : List (Addr × Obj)} {σ : L2.St} {H : Hp} {s : Shared} (I : Inv X pins σ H s) : ∀ {as : List Addr} {rows : List (List V)}, RowsV H as rows → ∃ rv : List (List Value), Paired (fun (r : List V) (t : List Value) => r.length = t.length) rows rv ∧ RowsIn s.heap as rv
  | [], _, .nil => ⟨[], .nil, rfl, fun j a r h => by simp at h, fun r h => absurd h List.not_mem_nil⟩
  | a :: as, r :: rows, .cons h t => by
    obtain ⟨rv, h1, h2⟩ := rowsIn_of I t
    obtain ⟨z, its, n, g1, g2, g3⟩ := I.lstM h
    refine ⟨its :: rv, .cons g1.length h1, by rw [List.length_cons, List.length_cons, h2.len], fun j a' r' e1 e2 => ?_, fun r' hr => ?_⟩
    · cases j with
      | zero =>
        have e1 : a = a' := Option.some.inj e1
        have e2 : its = r' := Option.some.inj e2
        subst e1 e2
        exact ⟨n, g3⟩
      | succ j => exact h2.at_ j a' r' (by simpa using e1) (by simpa using e2)
    · rcases List.mem_cons.mp hr with e | hr
      · rw [e, ← g1.length]
        exact z
      · exact h2.fit r' hr
theorem pair_at {α β : Type} {R : α → β → Prop} : ∀ {xs : List α} {ys : List β} {i : Nat} {y : β}, Paired R xs ys → ys[i]? = some y → ∃ x, xs[i]? = some x ∧ R x y
  | _, _, i, _, .nil, h => by simp at h
  | _, _, 0, _, .cons a b, h => by
    have e : _ = _ := Option.some.inj h
    subst e
    exact ⟨_, rfl, a⟩
  | _, _, i + 1, _, .cons a b, h => by
    obtain ⟨o, e1, e2⟩ := pair_at (i := i) b (by simpa using h)
    exact ⟨o, by simpa using e1, e2⟩
theorem pair_at' {α β : Type} {R : α → β → Prop} : ∀ {xs : List α} {ys : List β} {i : Nat} {x : α}, Paired R xs ys → xs[i]? = some x → ∃ y, ys[i]? = some y ∧ R x y
  | _, _, i, _, .nil, h => by simp at h
  | _, _, 0, _, .cons a b, h => by
    have e : _ = _ := Option.some.inj h
    subst e
    exact ⟨_, rfl, a⟩
  | _, _, i + 1, _, .cons a b, h => by
    obtain ⟨o, e1, e2⟩ := pair_at' (i := i) b (by simpa using h)
    exact ⟨o, by simpa using e1, e2⟩
def minCore (Q : VK) (x : V) (H1 : Hp) : Prop := ∃ (l : Addr) (as : List Addr) (rows : List (List V)), x = .ref l ∧ H1 l = some (.lst (as.map V.ref)) ∧ RowsV H1 as rows ∧ 0 < rows.length ∧
  ∀ (i : Nat) (a : Addr) (r : List V), as[i]? = some a → rows[i]? = some r → (∀ (j : Nat) (t : List V), rows[j]? = some t → r.length ≤ t.length ∧ (j < i → r.length < t.length)) → Q (.ref a) H1
def minArg (Q : VK) (vs : List V) (H1 : Hp) : Prop := match vs with
  | [x] => minCore Q x H1
  | _ => False
def tMinLen (te : TE) : TE := fun σ H Q => te σ H (minCore Q)
theorem pe_minLen {te : TE} (hc : X.calm = true) (hg : Gl X "min") (hm : X.mg "min" = none) (hg2 : Gl X "len") (hm2 : X.mg "len" = none) (he : PE X e te)
    (hse : starEach [e] X.env = (false, eval e X.env) :: starEach [] X.env) (hs : backTo pos (starEach [e] X.env) = (false, eval e X.env) :: backTo pos (starEach [] X.env)) (hpl : (backTo pos (starEach [e] X.env)).any (·.1) = false) : PE X (.Call (.Name "min" p) [e] [⟨some "key", .Name "len" p2, kp⟩] pos) (tMinLen te) := by
  refine ⟨fun pins s σ H Q I h => ?_⟩
  refine wpAny_Call_Name_kw (ld_blt I hg hm PyProof.Rows.boot_min ?_ (by decide) (by decide))
  refine PyProof.Rows.callWith_kw (thn ((pa_cons he pa_nil hse).run pos pins s σ H (minArg Q) I (show tCons te tNil σ H (minArg Q) from h)) fun us s1 ⟨vs, H1, I1, r1, q1⟩ => ?_) hs hpl rfl rfl
  show wpAny _ _ (evalAll ((do let v ← eval (.Name "len" p2) X.env; standAt pos; pure v) :: [])) _ _ s1
  refine wpAny_evalAll_cons (wpAny_bind (ld_blt I1 hg2 hm2 PySem.boot_len (wpAny_bind (wpAny_standAt (wpAny_pure (wpAny_evalAll_nil ?_)))) (by decide) (by decide)))
  match vs, q1, r1 with
  | [x], ⟨l, as, rows, ex, hl, hr, h0, q⟩, r1 =>
    subst ex
    obtain ⟨u, rfl, ru⟩ := vals1 r1
    have ru : u = Value.ref l := ru
    subst ru
    obtain ⟨z, its, n, g1, g2, g3⟩ := I1.lstM hl
    have e1 := refs_of g1
    subst e1
    obtain ⟨rv, h1, h2⟩ := rowsIn_of I1 hr
    have hlen : rows.length = rv.length := Paired.length h1
    refine min_len (I1.ok.hd hc) ⟨n, g3⟩ h2 (by rw [← hlen]; exact h0) fun i a h' tk ha hb hk => ⟨.ref a, H1, I1.kept hk, rfl, ?_⟩
    obtain ⟨t, ht, hi, hbest⟩ := hb
    obtain ⟨r, er, el⟩ := pair_at h1 ht
    refine q i a r ha er fun j u hu => ?_
    obtain ⟨t2, e2, el2⟩ := pair_at' h1 hu
    have z2 := hbest j t2 (List.getElem?_eq_some_iff.mp e2).1 e2
    rw [el, el2]
    exact z2
/-- min(lists, key=len), lists of data -/
theorem gminlen (hc : X.calm = true) (hm : X.mg "min" = none) (hm2 : X.mg "len" = none)
    (h : GE X ρ M e fun x M1 => ∃ dss : List (List PyData), x = .pu (.list (dss.map .list)) ∧ 0 < dss.length ∧ ∀ (i : Nat) (ds : List PyData), dss[i]? = some ds → (∀ (j : Nat) (t : List PyData), dss[j]? = some t → ds.length ≤ t.length ∧ (j < i → ds.length < t.length)) → Q (.pu (.list ds)) M1)
    (hg : Gl X "min" := by rfl) (hg2 : Gl X "len" := by rfl) (hse : starEach [e] X.env = (false, eval e X.env) :: starEach [] X.env := by rfl) (hs : backTo pos (starEach [e] X.env) = (false, eval e X.env) :: backTo pos (starEach [] X.env) := by rfl) (hpl : (backTo pos (starEach [e] X.env)).any (·.1) = false := by rfl) :
    GE X ρ M (.Call (.Name "min" p) [e] [⟨some "key", .Name "len" p2, kp⟩] pos) Q := .mk fun B F H σ Q' W S s => by
  refine wE_of (pe_minLen hc hg hm hg2 hm2 pE hse hs hpl) (h B F H σ (minCore Q') W S fun x M1 v F1 H1 hx W1 s1 vx => ?_)
  obtain ⟨dss, rfl, h0, q⟩ := hx
  have vx : Dt F1 v (.list (dss.map .list)) := vx
  cases vx with
  | lst g1 g2 =>
    obtain ⟨ls, rs, e1, e2, e3, e4⟩ := lists_of g2
    subst e1
    have hl3 : rs.length = dss.length := Paired.length e3
    refine ⟨_, ls, rs, rfl, W1.fh _ _ g1, rowsH_same W1.fh e2, by rw [hl3]; exact h0, fun i a r ha hr hb => ?_⟩
    obtain ⟨ds, hd, dd⟩ := pair_at' e3 hr
    obtain ⟨r2, hr2, hF⟩ := pair_at' e2 ha
    have er : r2 = r := Option.some.inj (hr2.symm.trans hr)
    subst er
    refine s _ M1 _ F1 H1 (q i ds hd fun j t ht => ?_) W1 s1 (.lst hF dd)
    obtain ⟨r3, h3, d3⟩ := pair_at e3 ht
    have z := hb j r3 h3
    rw [dd.length, d3.length] at z
    exact z
end
end G

namespace G
open PySem PySem.Spec PyProof.Rows L2
/-! ### dicts whose keys are tuples of ints -/
abbrev kI (ns : List Int) : List Key := ns.map Sum.inl
theorem kI_kV (ns : List Int) : (kI ns).map kV = ns.map V.int := by rw [List.map_map]; rfl
def valS (kvs : List (List Key × SD)) (k : List Key) : Option SD := (kvs.find? fun kv => decide (kv.1 = k)).map (·.2)
def putS (kvs : List (List Key × SD)) (k : List Key) (r : SD) : List (List Key × SD) :=
  if (kvs.any fun kv => decide (kv.1 = k)) = true then kvs.map (fun kv => if kv.1 = k then (kv.1, r) else kv) else kvs ++ [(k, r)]
theorem valS_rel {F : Hp} {vs : List (List Key × V)} {kvs : List (List Key × SD)} (h : Paired (DEnt F) vs kvs) {k : List Key} {r : SD} (e : valS kvs k = some r) : ∃ v, valV vs k = some v ∧ VOk F v r := by
  induction h with
  | nil => cases e
  | @cons a b as bs h t ih =>
    unfold valS at e
    unfold valV
    rw [List.find?_cons] at e ⊢
    rw [h.1]
    by_cases q : b.1 = k
    · rw [decide_eq_true q] at e ⊢
      have e : b.2 = r := Option.some.inj e
      subst e
      exact ⟨a.2, rfl, h.2⟩
    · rw [decide_eq_false q] at e ⊢
      exact ih e
theorem any_rel {F : Hp} {vs : List (List Key × V)} {kvs : List (List Key × SD)} (h : Paired (DEnt F) vs kvs) (k : List Key) : (vs.any fun kv => decide (kv.1 = k)) = (kvs.any fun kv => decide (kv.1 = k)) := by
  induction h with
  | nil => rfl
  | cons h t ih => rw [List.any_cons, List.any_cons, h.1, ih]
theorem putS_rel {F : Hp} {vs : List (List Key × V)} {kvs : List (List Key × SD)} (h : Paired (DEnt F) vs kvs) (k : List Key) {v : V} {r : SD} (hv : VOk F v r) : Paired (DEnt F) (putK vs k v) (putS kvs k r) := by
  unfold putK putS
  rw [any_rel h k]
  by_cases q : (kvs.any fun kv => decide (kv.1 = k)) = true
  · rw [if_pos q, if_pos q]
    clear q
    induction h with
    | nil => exact .nil
    | @cons a b as bs h t ih =>
      refine .cons ?_ ih
      show DEnt F (if a.1 = k then (a.1, v) else a) (if b.1 = k then (b.1, r) else b)
      rw [h.1]
      by_cases z : b.1 = k
      · rw [if_pos z, if_pos z]
        exact ⟨rfl, hv⟩
      · rw [if_neg z, if_neg z]
        exact h
  · rw [if_neg q, if_neg q]
    exact Paired.snoc h ⟨rfl, hv⟩
/-- a tuple of ints as data -/
abbrev tI (ns : List Int) : PyData := .tuple (ns.map .int)
theorem tI_at {F : Hp} {v : V} {ns : List Int} (h : Dt F v (tI ns)) : ∃ b, v = .ref b ∧ F b = some (.tup ((kI ns).map kV)) := by
  cases h with
  | tup h1 h2 =>
    rw [DtA.ints h2] at h1
    exact ⟨_, rfl, by rw [kI_kV]; exact h1⟩
section
variable {X : Cx} {ρ : List SD} {M : Mem} {Q : Kn} {pos pos' : Pos} {o i value k v : Expr} {D : GD}
/-- d[k] -/
theorem gdget (hu : X.A.units + 1 < cLine) (h : GE X ρ M o fun x M1 => GE X ρ M1 i fun y M2 => ∃ d kvs ns r, x = .rf (.ref d) ∧ (d, MO.dct kvs) ∈ M2 ∧ y = .pu (tI ns) ∧ valS kvs (kI ns) = some r ∧ Q r M2) (hs : NoSl i := by intro _ _; rfl) : GE X ρ M (.Subscript o i pos) Q := .mk fun B F H σ Q' W S s => by
  refine wE_of (pe_dget hu pE pE hs) (h B F H σ _ W S fun x M1 u F1 H1 hx W1 s1 vx => ?_)
  refine hx B F1 H1 σ _ W1 (pMono s1 S) fun y M2 w F2 H2 hy W2 s2 wy => ?_
  obtain ⟨d, kvs, ns, r, rfl, hm, rfl, hr, q⟩ := hy
  have vx : u = .ref d := vx
  subst vx
  obtain ⟨f1, vs, f2, f3⟩ := W2.mem _ hm
  obtain ⟨b, rfl, hb⟩ := tI_at wy
  obtain ⟨v, e1, e2⟩ := valS_rel f3 hr
  refine ⟨d, v, rfl, ?_, s r M2 v F2 H2 q W2 (s1.trans s2) e2⟩
  have z := DGet.t (kvs := vs) f2 (W2.fh _ _ hb)
  rw [e1] at z
  exact z
/-- d[k] = e -/
theorem sdput (hu : X.A.units + 1 < cLine) (h : GE X ρ M value fun z M1 => GE X ρ M1 o fun x M2 => GE X ρ M2 i fun y M3 => ∃ d kvs ns Ma Mb, x = .rf (.ref d) ∧ y = .pu (tI ns) ∧ M3 = Ma ++ (d, .dct kvs) :: Mb ∧ kvs.length < 1000 ∧ D.nx ρ (Ma ++ (d, .dct (putS kvs (kI ns) z)) :: Mb))
    (hs : swapsWith value (some (.Subscript o i pos')) pos.line X.env = pure false := by rfl) : GS X ρ M (.Assign [.Subscript o i pos'] value pos) D := .mk fun B F H σ D' W S s => by
  refine wS_of (ps_dput hu pE pE pE hs) (h B F H σ _ W S fun z M1 u F1 H1 hz W1 s1 vz => ?_)
  refine hz B F1 H1 σ _ W1 (pMono s1 S) fun x M2 w F2 H2 hx W2 s2 vx => ?_
  refine hx B F2 H2 σ _ W2 (pMono (s1.trans s2) S) fun y M3 t F3 H3 hy W3 s3 vy => ?_
  obtain ⟨d, kvs, ns, Ma, Mb, rfl, rfl, rfl, hl, q⟩ := hy
  have vx : w = .ref d := vx
  subst vx
  obtain ⟨f1, vs, f2, f3⟩ := W3.mem (d, .dct kvs) (by simp)
  obtain ⟨b, rfl, hb⟩ := tI_at vy
  have W4 := (W3.perm List.perm_middle).writeD (putS_rel f3 (kI ns) (SOk.mono (s2.trans s3) vz))
  refine ⟨d, _, rfl, DPut.t (kvs := vs) (k := kI ns) (v := u) f2 (W3.fh _ _ hb) (by rw [Paired.length f3]; exact Nat.lt_of_lt_of_le hl (by decide)), ?_⟩
  exact s.nx _ _ _ F3 _ q (W4.perm List.perm_middle.symm) ((s1.trans s2).trans s3) (pMono ((s1.trans s2).trans s3) S)
/-! {k: v} -/
def dispCore (Q : VK) (p : Addr) (ps : List (V × V)) (H2 : Hp) : Prop := match ps with
  | [(x, y)] => H2 p = some (.dT []) ∧ ∃ (b : Addr) (ks : List Key), x = .ref b ∧ H2 b = some (.tup (ks.map kV)) ∧ Q (.ref p) (upd H2 p (.dT [(ks, y)]))
  | _ => False
def tDisp1 (tk tv : TE) : TE := fun σ H Q => ∀ p, H p = none → tk σ (upd H p (.dT [])) fun x H1 => tv σ H1 fun y H2 => dispCore Q p [(x, y)] H2
theorem pe_disp1 {tk tv : TE} (hu : X.A.units + 1 < cLine) (hk : PE X k tk) (hv : PE X v tv) : PE X (.Dict [some k] [v] pos) (tDisp1 tk tv) := by
  refine ⟨fun pins s σ H Q I q => ?_⟩
  generalize ep : s.heap.objs.size = p at q
  have hn : H p = none := by
    rw [← ep]
    exact I.hok.fresh (Nat.le_refl s.heap.objs.size)
  have I1 := I.laid (a := s.heap.objs.size) (o := .dT []) (h' := s.heap.push { cls := .type "dict", data := .dict #[] }) (t' := s.toks) (fun _ _ q => Heap.get?_push_of_some _ q) (Nat.le_refl _) (dt_empty s.heap I.big)
  rw [ep] at I1
  have run := (pps_cons (pos := pos) hk hv pps_nil).run pins _ σ _ (dispCore Q p) I1 (q p hn)
  have hlen : (pairTrees [some k] [v] X.env pos).length = 1 := pairTrees_length [some k] [v] X.env pos rfl rfl
  rw [arm_eval_Dict, zip_pairTrees [some k] [v] X.env pos rfl rfl, dictDisplay_pairs (pairTrees [some k] [v] X.env pos) (fun z => by rw [z] at hlen; cases hlen) (by omega)]
  refine wpAny_bind (wpAny_standAt (wpAny_bind (wpAny_subDictH (knd := tupleKind (mixKind X.prog X.w)) (show X.A.units < cLine by omega) (by omega) (wpAny_mono run (fun ws s2 h2 => ?_) fun _ _ e => e))))
  obtain ⟨ps, H2, I2, rel, hc⟩ := h2
  match ps, rel, hc with
  | [(x, y)], rel, ⟨hp, b, ks, ex, hb, hq⟩ =>
    subst ex
    match ws, rel with
    | [(u, t)], .cons r1 .nil =>
      obtain ⟨ru, rt⟩ := r1
      have ru : u = Value.ref b := ru
      subst ru
      rw [ep]
      obtain ⟨z, hd, xs, r0, dd⟩ := dt_of I2.hok hp
      cases r0
      refine ⟨[(ks, b, t)], ⟨rfl, rfl, key_of I2.hok hb, trivial⟩, dd, fun h' tk2 dd' hs => wpAny_pure ⟨.ref p, _, ?_, rfl, hq⟩⟩
      obtain ⟨o, es, e2, ho, g2, g3, g4, _, g5⟩ := dd'
      refine d_write I2 (by rw [hp]; exact True.intro) hs ⟨o, ho⟩ ⟨by rw [sizeLine_eq]; show 1 ≤ _; omega, hd, [(ks, b, t)], .cons ⟨rfl, ?_, rt⟩ .nil, o, es, e2, ho, g2, g3, g4, g5⟩
      show upd H2 p _ b = _
      rw [upd_ne (ne_of hb hp (fun z => nomatch z))]
      exact hb
/-- {k: v}, k a tuple of ints -/
theorem gdisp1 (hu : X.A.units + 1 < cLine) (h : GE X ρ M k fun x M1 => GE X ρ M1 v fun y M2 => ∃ ns, x = .pu (tI ns) ∧ ∀ d, Q (.rf (.ref d)) ((d, .dct [(kI ns, y)]) :: M2)) : GE X ρ M (.Dict [some k] [v] pos) Q := .mk fun B F H σ Q' W S s => by
  refine wE_of (pe_disp1 hu pE pE) fun p hp => ?_
  have W0 : Wd B F (upd H p (.dT [])) (M ++ [(p, .dct [])]) := (W.newd hp).perm (List.perm_append_comm (l₁ := [(p, MO.dct [])]))
  have Wm := W0.sub (List.sublist_append_left M _)
  refine h (here F (upd H p (.dT [])) M) F _ σ _ Wm.here S fun x M1 u F1 H1 hx W1 s1 vx => ?_
  refine hx (here F1 H1 M1) F1 H1 σ _ W1.here (pMono s1 S) fun y M2 w F2 H2 hy W2 s2 wy => ?_
  obtain ⟨ns, rfl, q⟩ := hy
  have Wf := (W0.frame W1).frame W2
  have Wg := Wf.perm (List.perm_append_comm (l₂ := [(p, MO.dct [])]))
  obtain ⟨f1, vs, f2, f3⟩ := Wg.mem (p, .dct []) List.mem_cons_self
  cases f3
  obtain ⟨b, rfl, hb⟩ := tI_at (SOk.mono (o := some u) s2 vx)
  have W3 := Wg.writeD (ws := [(kI ns, w)]) (ys := [(kI ns, y)]) (.cons ⟨rfl, wy⟩ .nil)
  exact ⟨f2, b, kI ns, rfl, Wg.fh _ _ hb, s _ _ _ F2 _ (q p) W3 (s1.trans s2) rfl⟩
end
end G

namespace G
open PySem PySem.Spec PyProof.Rows L2
/-! ### routes from the corner and what has to be changed along them -/
def ndD (T : Tab) (k : Int) (i j : Nat) : List I3 := if k ≤ val T i j then [((i : Int), (j : Int), k - 1)] else []
def ndL (T : Tab) (k : Int) (i j : Nat) : List I3 := if val T i j ≤ k then [((i : Int), (j : Int), k + 1)] else []
def pick2 (a b : List I3) : List I3 := if b.length < a.length then b else a
def wayC (T : Tab) (n : Nat) (k : Int) : Nat → Nat → List I3
  | 0, 0 => []
  | 0, c + 1 => wayC T n k 0 c ++ ndL T k 0 (n - 1 - c)
  | i + 1, 0 => wayC T n k i 0 ++ ndD T k i (n - 1)
  | i + 1, c + 1 => pick2 (wayC T n k i (c + 1) ++ ndD T k i (n - 1 - (c + 1))) (wayC T n k (i + 1) c ++ ndL T k (i + 1) (n - 1 - c))
termination_by i c => (i, c)
def way (T : Tab) (n : Nat) (k : Int) (i j : Nat) : List I3 := wayC T n k i (n - 1 - j)
theorem way_corner (T : Tab) (n : Nat) (k : Int) : way T n k 0 (n - 1) = [] := by
  unfold way
  rw [Nat.sub_self]
  unfold wayC
  rfl
theorem way_top (T : Tab) {n : Nat} (k : Int) {j : Nat} (hj : j + 1 < n) : way T n k 0 j = way T n k 0 (j + 1) ++ ndL T k 0 (j + 1) := by
  unfold way
  obtain ⟨c, e⟩ : ∃ c, n - 1 - j = c + 1 := ⟨n - 1 - j - 1, by omega⟩
  have e2 : n - 1 - (j + 1) = c := by omega
  have e3 : n - 1 - c = j + 1 := by omega
  rw [e, e2]
  conv => lhs; unfold wayC
  rw [e3]
theorem way_last (T : Tab) (n : Nat) (k : Int) (i : Nat) : way T n k (i + 1) (n - 1) = way T n k i (n - 1) ++ ndD T k i (n - 1) := by
  unfold way
  rw [Nat.sub_self]
  conv => lhs; unfold wayC
theorem way_mid (T : Tab) {n : Nat} (k : Int) {i j : Nat} (hj : j + 1 < n) : way T n k (i + 1) j = pick2 (way T n k i j ++ ndD T k i j) (way T n k (i + 1) (j + 1) ++ ndL T k (i + 1) (j + 1)) := by
  unfold way
  obtain ⟨c, e⟩ : ∃ c, n - 1 - j = c + 1 := ⟨n - 1 - j - 1, by omega⟩
  have e2 : n - 1 - (j + 1) = c := by omega
  have e3 : n - 1 - c = j + 1 := by omega
  have e4 : n - 1 - (c + 1) = j := by omega
  rw [e, e2]
  conv => lhs; unfold wayC
  rw [e3, e4]
theorem pick2_le (a b : List I3) : (pick2 a b).length ≤ a.length ∧ (pick2 a b).length ≤ b.length := by
  unfold pick2
  split <;> omega
theorem pick2_or (a b : List I3) : pick2 a b = a ∨ pick2 a b = b := by
  unfold pick2
  split
  · exact .inr rfl
  · exact .inl rfl
theorem way_down (T : Tab) {n : Nat} (k : Int) {i j : Nat} (hj : j < n) : (way T n k (i + 1) j).length ≤ (way T n k i j).length + (ndD T k i j).length := by
  by_cases h : j + 1 < n
  · rw [way_mid T k h, ← List.length_append]
    exact (pick2_le _ _).1
  · have e : j = n - 1 := by omega
    subst e
    rw [way_last, List.length_append]
    exact Nat.le_refl _
theorem way_left (T : Tab) {n : Nat} (k : Int) {i j : Nat} (hj : j + 1 < n) : (way T n k i j).length ≤ (way T n k i (j + 1)).length + (ndL T k i (j + 1)).length := by
  cases i with
  | zero =>
    rw [way_top T k hj, List.length_append]
    exact Nat.le_refl _
  | succ i =>
    rw [way_mid T k hj, ← List.length_append]
    exact (pick2_le _ _).2
theorem way_from (T : Tab) {n : Nat} (k : Int) {i j : Nat} (hj : j < n) (h : ¬ (i = 0 ∧ j = n - 1)) : (∃ i', i = i' + 1 ∧ way T n k i j = way T n k i' j ++ ndD T k i' j) ∨ (j + 1 < n ∧ way T n k i j = way T n k i (j + 1) ++ ndL T k i (j + 1)) := by
  by_cases h1 : j + 1 < n
  · cases i with
    | zero => exact .inr ⟨h1, way_top T k h1⟩
    | succ i =>
      rw [way_mid T k h1]
      rcases pick2_or (way T n k i j ++ ndD T k i j) (way T n k (i + 1) (j + 1) ++ ndL T k (i + 1) (j + 1)) with e | e
      · exact .inl ⟨i, rfl, e⟩
      · exact .inr ⟨h1, e⟩
  · have e : j = n - 1 := by omega
    subst e
    cases i with
    | zero => exact absurd ⟨rfl, rfl⟩ h
    | succ i => exact .inl ⟨i, rfl, way_last T n k i⟩
theorem way_len (T : Tab) {n : Nat} (k : Int) : ∀ (s i j : Nat), i + (n - 1 - j) ≤ s → j < n → (way T n k i j).length ≤ s := by
  intro s
  induction s with
  | zero =>
    intro i j h hj
    have e1 : i = 0 := by omega
    have e2 : j = n - 1 := by omega
    subst e1 e2
    rw [way_corner]
    exact Nat.le_refl _
  | succ s ih =>
    intro i j h hj
    by_cases z : i = 0 ∧ j = n - 1
    · obtain ⟨e1, e2⟩ := z
      subst e1 e2
      rw [way_corner]
      exact Nat.zero_le _
    have d1 : ∀ i j, (ndD T k i j).length ≤ 1 := fun i j => by unfold ndD; split <;> simp
    have d2 : ∀ i j, (ndL T k i j).length ≤ 1 := fun i j => by unfold ndL; split <;> simp
    rcases way_from T k hj z with ⟨i', rfl, e⟩ | ⟨h1, e⟩
    · rw [e, List.length_append]
      have := ih i' j (by omega) hj
      have := d1 i' j
      omega
    · rw [e, List.length_append]
      have := ih i (j + 1) (by omega) h1
      have := d2 i (j + 1)
      omega
/-! ### fewer changes are not enough -/
def cntB (S : List (Nat × Nat)) (i j : Nat) : Nat := (S.filter fun s => decide (s.1 ≤ i ∧ j ≤ s.2 ∧ s ≠ (i, j))).length
theorem cntB_le (S : List (Nat × Nat)) (i j : Nat) : cntB S i j ≤ S.length := List.length_filter_le _ _
theorem filter_more {α : Type} {S : List α} {p q : α → Bool} {a : α} (h : ∀ x, p x = true → q x = true) (ha : a ∈ S) (hp : p a = false) (hq : q a = true) : (S.filter p).length + 1 ≤ (S.filter q).length := by
  induction S with
  | nil => cases ha
  | cons x S ih =>
    have mono : ∀ S : List α, (S.filter p).length ≤ (S.filter q).length := by
      intro S
      induction S with
      | nil => exact Nat.le_refl _
      | cons y S ih =>
        rw [List.filter_cons, List.filter_cons]
        cases e : p y with
        | true => rw [if_pos rfl, if_pos (h y e), List.length_cons, List.length_cons]; omega
        | false =>
          rw [if_neg (by decide)]
          split
          · rw [List.length_cons]; omega
          · exact ih
    rw [List.filter_cons, List.filter_cons]
    rcases List.mem_cons.mp ha with e | e
    · subst e
      rw [hp, hq, if_neg (by decide), if_pos rfl, List.length_cons]
      have := mono S
      omega
    · have z := ih e
      cases e : p x with
      | true => rw [if_pos rfl, if_pos (h x e), List.length_cons, List.length_cons]; omega
      | false =>
        rw [if_neg (by decide)]
        split
        · rw [List.length_cons]; omega
        · exact z
theorem filter_mono {α : Type} {p q : α → Bool} (h : ∀ x, p x = true → q x = true) : ∀ S : List α, (S.filter p).length ≤ (S.filter q).length
  | [] => Nat.le_refl _
  | y :: S => by
    have ih := filter_mono h S
    rw [List.filter_cons, List.filter_cons]
    cases e : p y with
    | true => rw [if_pos rfl, if_pos (h y e), List.length_cons, List.length_cons]; omega
    | false =>
      rw [if_neg (by decide)]
      split
      · rw [List.length_cons]; omega
      · exact ih
theorem cntB_down {S : List (Nat × Nat)} {i j : Nat} : cntB S i j + (if (i, j) ∈ S then 1 else 0) ≤ cntB S (i + 1) j := by
  unfold cntB
  have h : ∀ x : Nat × Nat, decide (x.1 ≤ i ∧ j ≤ x.2 ∧ x ≠ (i, j)) = true → decide (x.1 ≤ i + 1 ∧ j ≤ x.2 ∧ x ≠ (i + 1, j)) = true := fun x hx => by
    have hx := of_decide_eq_true hx
    refine decide_eq_true ⟨by omega, hx.2.1, fun e => ?_⟩
    have := hx.1
    rw [e] at this
    dsimp only at this
    omega
  split
  · next hs => exact filter_more h hs (decide_eq_false fun z => z.2.2 rfl) (decide_eq_true ⟨by dsimp only; omega, Nat.le_refl _, fun e => by injection e with e1 e2; omega⟩)
  · exact filter_mono h S
theorem cntB_left {S : List (Nat × Nat)} {i j : Nat} : cntB S i (j + 1) + (if (i, j + 1) ∈ S then 1 else 0) ≤ cntB S i j := by
  unfold cntB
  have h : ∀ x : Nat × Nat, decide (x.1 ≤ i ∧ j + 1 ≤ x.2 ∧ x ≠ (i, j + 1)) = true → decide (x.1 ≤ i ∧ j ≤ x.2 ∧ x ≠ (i, j)) = true := fun x hx => by
    have hx := of_decide_eq_true hx
    refine decide_eq_true ⟨hx.1, by omega, fun e => ?_⟩
    have := hx.2.1
    rw [e] at this
    dsimp only at this
    omega
  split
  · next hs => exact filter_more h hs (decide_eq_false fun z => z.2.2 rfl) (decide_eq_true ⟨Nat.le_refl _, by dsimp only; omega, fun e => by injection e with e1 e2; omega⟩)
  · exact filter_mono h S
/-- U is T but for the places S -/
def Off (T U : Tab) (S : List (Nat × Nat)) : Prop := ∀ i j, (i, j) ∉ S → val U i j = val T i j
theorem go_cost {T U : Tab} {n : Nat} {k : Int} {S : List (Nat × Nat)} (off : Off T U S) : ∀ (f i c : Nat), c ≤ n → (i < U.length → 0 < c → (way T n k i (c - 1)).length ≤ cntB S i (c - 1)) → ∀ p ∈ (go U k f i c).1, (way T n k p.1 p.2).length ≤ cntB S p.1 p.2
  | 0, i, c, _, _, p, hp => absurd hp List.not_mem_nil
  | f + 1, i, c, hc, h, p, hp => by
    by_cases hb : i < U.length ∧ 0 < c
    · obtain ⟨h1, h2⟩ := hb
      have hj : c - 1 < n := by omega
      have h3 := h h1 h2
      rcases Int.lt_trichotomy (val U i (c - 1)) k with hv | hv | hv
      · rw [go_lt h1 h2 hv] at hp
        rcases List.mem_cons.mp hp with e | hp
        · rw [e]
          exact h3
        · refine go_cost off f (i + 1) c hc (fun _ _ => ?_) p hp
          have a := way_down T k (i := i) hj
          have b := cntB_down (S := S) (i := i) (j := c - 1)
          have d : (ndD T k i (c - 1)).length ≤ if (i, c - 1) ∈ S then 1 else 0 := by
            unfold ndD
            split
            · next hk =>
              rw [if_pos (Classical.byContradiction fun hn => by
                have := off _ _ hn
                omega)]
              exact Nat.le_refl _
            · exact Nat.zero_le _
          omega
      · rw [go_eq h1 h2 hv] at hp
        rw [List.mem_singleton.mp hp]
        exact h3
      · rw [go_gt h1 h2 hv] at hp
        rcases List.mem_cons.mp hp with e | hp
        · rw [e]
          exact h3
        · refine go_cost off f i (c - 1) (by omega) (fun _ h4 => ?_) p hp
          obtain ⟨d, rfl⟩ : ∃ d, c = d + 2 := ⟨c - 2, by omega⟩
          have a := way_left T k (i := i) (j := d) hj
          have b := cntB_left (S := S) (i := i) (j := d)
          have d2 : (ndL T k i (d + 1)).length ≤ if (i, d + 1) ∈ S then 1 else 0 := by
            unfold ndL
            split
            · next hk =>
              rw [if_pos (Classical.byContradiction fun hn => by
                have := off _ _ hn
                have hv : k < val U i (d + 1) := hv
                omega)]
              exact Nat.le_refl _
            · exact Nat.zero_le _
          have h3 : (way T n k i (d + 1)).length ≤ cntB S i (d + 1) := h3
          show (way T n k i d).length ≤ cntB S i d
          omega
    · rw [go_out hb] at hp
      exact absurd hp List.not_mem_nil
theorem fewer_not {T U : Tab} {n : Nat} {S : List (Nat × Nat)} {i j : Nat} {k : Int} (t : IsTab T n) (u : IsTab U n) (off : Off T U S) (hi : i < U.length) (hj : j < n) (hl : S.length < (way T n k i j).length) : (run U n k).2 ≠ ((i : Int), (j : Int)) := fun e => by
  obtain ⟨_, _, hm⟩ := road_end _ 0 n e hi (by omega) (Nat.zero_le _)
  have h := go_cost (T := T) (n := n) off (U.length + n) 0 n (Nat.le_refl _) (fun _ _ => by rw [way_corner]; exact Nat.zero_le _) (i, j) (List.mem_of_getElem? hm)
  have := cntB_le S i j
  have h : (way T n k i j).length ≤ cntB S i j := h
  omega
end G

namespace G
open PySem PySem.Spec PyProof.Rows L2
section
variable {X : Cx} {ρ : List SD} {M : Mem} {Q : Kn} {pos p p2 cpos : Pos} {tg a b e : Expr} {QI : Nat → (Nat → SD) → Mem → Prop}
/-- a named list of lists is frozen as a whole -/
theorem gbzd (i : Nat) {l : Addr} {rows : List (Addr × List Int)} {Mz : Mem} {sts : List Stmt} {D : GD} (hr : ρ[i]? = some (.rf (.ref l))) (pm : M.Perm ((l, .lst (rows.map rowR)) :: (rows.map rowM ++ Mz))) (h : GB X (ρ.set i (.pu (tab (rows.map (·.2))))) Mz sts D) : GB X ρ M sts D := .mk fun B F H σ D' W S s => by
  obtain ⟨F2, s2, W2⟩ := Wd.deep (pre := []) (W.perm pm)
  have e : ([] ++ rows.map fun d => SD.pu (rowD d.2)) = ((rows.map (·.2)).map rowD).map SD.pu := by
    rw [List.map_map, List.map_map]
    rfl
  rw [e] at W2
  have S2 := pMono s2 S
  exact (gbz i hr h) B F2 H σ D' W2 S2 (s.mono s2)
/-- reversed(range(a, b)) -/
theorem irev2 (hm : X.mg "reversed" = none) (hm2 : X.mg "range" = none) (h : GE X ρ M a fun x M1 => ∃ lo : Nat, x = .pu (.int lo) ∧ GE X ρ M1 b fun y M2 => ∃ n : Nat, y = .pu (.int n) ∧ lo ≤ n ∧ n ≤ 10000 ∧ QI (n - lo) (fun i => .pu (.int ((n : Int) - 1 - (i : Int)))) M2)
    (hg : Gl X "reversed" := by rfl) (hg2 : Gl X "range" := by rfl) (na : starEach [a, b] X.env = (false, eval a X.env) :: starEach [b] X.env := by rfl) (nb : starEach [b] X.env = (false, eval b X.env) :: starEach [] X.env := by rfl) (hp : (backTo cpos (starEach [b] X.env)).any (·.1) = false := by rfl)
    (he2 : starEach [.Call (.Name "range" p2) [a, b] [] cpos] X.env = [(false, eval (.Call (.Name "range" p2) [a, b] [] cpos) X.env)] := by rfl) : GI X ρ M tg (.Call (.Name "reversed" p) [.Call (.Name "range" p2) [a, b] [] cpos] [] pos) QI := .mk fun B F H σ R' W S s => by
  refine wI_of (pi_revR hg hm (prg_2 hg2 hm2 pE pE na nb hp) he2) (h B F H σ _ W S fun x M1 v F1 H1 hx W1 s1 vx => ?_)
  obtain ⟨lo, rfl, hx⟩ := hx
  have vx : Dt F1 v (.int lo) := vx
  cases vx
  refine hx B F1 H1 σ _ W1 (pMono s1 S) fun y M2 w F2 H2 hy W2 s2 wy => ?_
  obtain ⟨n, rfl, hln, hn, q⟩ := hy
  have wy : Dt F2 w (.int n) := wy
  cases wy
  refine ⟨lo, n, rfl, rfl, by omega, by omega, by omega, by omega, ?_⟩
  have e1 : ((n : Int) - (lo : Int)).toNat = n - lo := by omega
  rw [e1]
  refine s _ _ M2 _ F2 H2 q W2 (s1.trans s2) ?_
  have z := git_rngC (F := F2) (lo := (lo : Int) + ((n - lo : Nat) : Int) - 1) (c := -1) (n := n - lo)
  have e2 : (fun i : Nat => SD.pu (.int ((lo : Int) + ((n - lo : Nat) : Int) - 1 + (i : Int) * (-1)))) = fun i : Nat => SD.pu (.int ((n : Int) - 1 - (i : Int))) := by
    funext i
    congr 2
    omega
  rw [e2] at z
  exact z
end
theorem valS_put (kvs : List (List Key × SD)) (k : List Key) (r : SD) (k' : List Key) : valS (putS kvs k r) k' = if k' = k then some r else valS kvs k' := by
  unfold putS
  by_cases q : (kvs.any fun kv => decide (kv.1 = k)) = true
  · rw [if_pos q]
    induction kvs with
    | nil => cases q
    | cons a kvs ih =>
      unfold valS at ih ⊢
      rw [List.map_cons, List.find?_cons, List.find?_cons]
      by_cases ha : a.1 = k
      · rw [if_pos ha]
        by_cases hk : k' = k
        · rw [if_pos hk, hk, decide_eq_true ha]
          rfl
        · rw [if_neg hk]
          have h1 : decide (a.1 = k') = false := decide_eq_false fun z => hk (z.symm.trans ha)
          dsimp only
          rw [h1]
          dsimp only
          by_cases q2 : (kvs.any fun kv => decide (kv.1 = k)) = true
          · have z := ih q2
            rw [if_neg hk] at z
            exact z
          · have z : kvs.map (fun kv => if kv.1 = k then (kv.1, r) else kv) = kvs := by
              refine (List.map_congr_left fun x hx => ?_).trans (List.map_id kvs)
              rw [if_neg fun w => q2 (List.any_eq_true.mpr ⟨x, hx, decide_eq_true w⟩)]
              rfl
            rw [z]
      · rw [if_neg ha]
        have q2 : (kvs.any fun kv => decide (kv.1 = k)) = true := by
          rw [List.any_cons, decide_eq_false ha, Bool.false_or] at q
          exact q
        have z := ih q2
        by_cases hk : k' = k
        · rw [if_pos hk] at z ⊢
          have h1 : decide (a.1 = k') = false := decide_eq_false fun w => ha (w.trans hk)
          rw [h1]
          exact z
        · rw [if_neg hk] at z ⊢
          cases decide (a.1 = k') with
          | true => rfl
          | false => exact z
  · rw [if_neg q]
    unfold valS
    rw [List.find?_append]
    by_cases hk : k' = k
    · rw [if_pos hk, hk]
      have z : kvs.find? (fun kv => decide (kv.1 = k)) = none := List.find?_eq_none.mpr fun x hx w => q (List.any_eq_true.mpr ⟨x, hx, w⟩)
      rw [z, Option.none_or, List.find?_cons, decide_eq_true rfl]
      rfl
    · rw [if_neg hk]
      have h1 : decide (k = k') = false := decide_eq_false fun w => hk w.symm
      cases kvs.find? (fun kv => decide (kv.1 = k')) with
      | some x => rfl
      | none => rw [Option.none_or, List.find?_cons]; dsimp only; rw [h1]; rfl
theorem putS_len (kvs : List (List Key × SD)) (k : List Key) (r : SD) : (putS kvs k r).length ≤ kvs.length + 1 := by
  unfold putS
  split
  · rw [List.length_map]; omega
  · rw [List.length_append]; exact Nat.le_refl _
theorem kI_inj {a b c d : Int} : kI [a, b] = kI [c, d] ↔ a = c ∧ b = d := by
  constructor
  · intro h
    have h : [Sum.inl (β := Str) a, Sum.inl b] = [Sum.inl c, Sum.inl d] := h
    injection h with h1 h2
    injection h1 with h1
    injection h2 with h2 _
    injection h2 with h2
    exact ⟨h1, h2⟩
  · rintro ⟨rfl, rfl⟩
    rfl
end G

namespace G
open PySem PySem.Spec PyProof.Rows L2
/-! ### changing lists, looked at as if they were frozen -/
section
variable {X : Cx} {ρ : List SD} {M Mz : Mem} {Q : Kn} {QT : Bool → Mem → Prop} {pos : Pos} {c e : Expr} {st : Stmt} {D : GD} {l : Addr} {rows : List (Addr × List Int)}
theorem gvp (i : Nat) {x : Str} {v : V} {d : PyData} (hr : ρ[i]? = some (.pv v d)) (q : Q (.pu d) M) (hN : X.N[i]? = some x := by rfl) (hvis : Vis X.env.scope x := by first | exact Or.inl rfl | exact Or.inr (Or.inl rfl) | exact Or.inr (Or.inr rfl))
    (hd : (x == ("__debug__" : Str)) = false := by decide) (hcd : (x == ("__classdict__" : Str)) = false := by decide) : GE X ρ M (.Name x pos) Q := .mk fun B F H σ Q' W S s => by
  obtain ⟨o, e1, e2⟩ := pget S hr
  obtain ⟨u, e3, e4⟩ := e2.isV rfl
  subst e3
  obtain ⟨rfl, e5⟩ := (show u = v ∧ Dt F v d from e4)
  exact wE_of (pe_var hN hvis hd hcd) ⟨u, e1, s _ M u F H q W (Same.refl F) e5⟩
/-- the world as it was, behind something that has changed nothing of it -/
theorem Wd.back {B : Bs} {F F3 F' H H' : Hp} {M M' : Mem} (W : Wd B F H M) (s3 : Same F F3) (s' : Same F3 F') (W' : Wd (G.here F3 H []) F' H' M') : Wd B F H' M where
  fh := s3.trans (s'.trans W'.fh)
  f0 := W.f0
  fnew := W.fnew
  keep := fun a o h n => W'.keep a o (W.keep a o h n) List.not_mem_nil
  dom := fun a h => W.dom a (W'.dom a h)
  mem := fun p hp => ⟨(W.mem p hp).1, (W.mem p hp).2.mono (Same.refl F) fun o h => W'.keep p.1 o h List.not_mem_nil⟩
  nd := W.nd
  new := W.new
theorem deep_frz {B : Bs} {F H : Hp} (W : Wd B F H M) (pm : M.Perm ((l, .lst (rows.map rowR)) :: (rows.map rowM ++ Mz))) : ∃ F3, Same F F3 ∧ Wd (here F3 H []) F3 H [] ∧ Dt F3 (.ref l) (tab (rows.map (·.2))) := by
  obtain ⟨F2, s2, W2⟩ := Wd.deep (pre := []) (W.perm pm)
  have e : ([] ++ rows.map fun d => SD.pu (rowD d.2)) = ((rows.map (·.2)).map rowD).map SD.pu := by
    rw [List.map_map, List.map_map]
    rfl
  rw [e] at W2
  obtain ⟨F3, s3, W3, d⟩ := W2.freeze
  exact ⟨F3, s2.trans s3, (W3.sub (List.nil_sublist _)).here, d⟩
/-- a test over a table that changes elsewhere -/
theorem tthaw (i : Nat) (hr : ρ[i]? = some (.rf (.ref l))) (pm : M.Perm ((l, .lst (rows.map rowR)) :: (rows.map rowM ++ Mz))) (h : GT X (ρ.set i (.pu (tab (rows.map (·.2))))) [] c fun b _ => QT b M) : GT X ρ M c QT := .mk fun B F H σ Q' W S s => by
  obtain ⟨F3, s3, W3, d⟩ := deep_frz W pm
  obtain ⟨o, ho, so⟩ := pget S hr
  have eo : o = some (.ref l) := by
    match o, so with
    | some v, so => exact congrArg some so
  subst eo
  have P := pset (F := F3) (σ := σ) (o := some (V.ref l)) (r := .pu (tab (rows.map fun x : Addr × List Int => x.2))) d i (pMono s3 S)
  have es : σ.set i (some (V.ref l)) = σ := by
    refine List.ext_getElem? fun j => ?_
    rw [List.getElem?_set]
    by_cases e : i = j
    · subst e
      obtain ⟨hl, _⟩ := List.getElem?_eq_some_iff.mp ho
      rw [if_pos rfl, if_pos hl, ho]
    · rw [if_neg e]
  rw [es] at P
  exact h (here F3 H []) F3 H σ Q' W3 P fun b M' F' H' q W' s' => s b M F H' q (W.back s3 s' W') (Same.refl F)
/-- what a slot becomes in the frozen world -/
inductive Up1 (u : V) (l : Addr) (d : PyData) : SD → SD → Prop
  | un {r : SD} : Up1 u l d r .un
  | pu {e : PyData} : Up1 u l d (.pu e) (.pv u e)
  | kp {e : PyData} : Up1 u l d (.pu e) (.pu e)
  | tb : Up1 u l d (.rf (.ref l)) (.pv (.ref l) d)
  | rf {v : V} : Up1 u l d (.rf v) (.rf v)
inductive UpL (vs : Nat → V) (l : Addr) (d : PyData) : Nat → List SD → List SD → Prop
  | nil {j : Nat} : UpL vs l d j [] []
  | cons {j : Nat} {r r3 : SD} {rs rs3 : List SD} : Up1 (vs j) l d r r3 → UpL vs l d (j + 1) rs rs3 → UpL vs l d j (r :: rs) (r3 :: rs3)
/-- and back -/
inductive Dn1 : SD → SD → SD → SD → Prop
  | un {r r3 r1 : SD} : Dn1 r r3 r1 .un
  | sc {r r3 : SD} {d : PyData} : isScal d = true → Dn1 r r3 (.pu d) (.pu d)
  | bk {r : SD} {u : V} {d : PyData} : Dn1 r (.pv u d) (.pv u d) r
  | rf {r r3 : SD} {v : V} : Dn1 r r3 (.rf v) (.rf v)
inductive DnL : List SD → List SD → List SD → List SD → Prop
  | nil : DnL [] [] [] []
  | cons {r r3 r1 r2 : SD} {rs rs3 rs1 rs2 : List SD} : Dn1 r r3 r1 r2 → DnL rs rs3 rs1 rs2 → DnL (r :: rs) (r3 :: rs3) (r1 :: rs1) (r2 :: rs2)
theorem scal_dt {F F' : Hp} {v : V} {d : PyData} (h : Dt F v d) (hs : isScal d = true) : Dt F' v d := by
  cases h with
  | bl b => exact .bl b
  | int i => exact .int i
  | str x => exact .str x
  | non => cases hs
  | lst _ _ => cases hs
  | tup _ _ => cases hs
  | dic _ => cases hs
theorem up_run {F F3 : Hp} {l : Addr} {d : PyData} (s3 : Same F F3) (hd : Dt F3 (.ref l) d) {vs : Nat → V} : ∀ {j : Nat} {σ : L2.St} {rs rs3 : List SD}, (∀ (i : Nat) (v : V), σ[i]? = some (some v) → vs (j + i) = v) → Paired (SOk F) σ rs → UpL vs l d j rs rs3 → Paired (SOk F3) σ rs3
  | j, _, _, _, hv, .nil, .nil => .nil
  | j, o :: σ, r :: rs, r3 :: rs3, hv, .cons a b, .cons u t => by
    refine .cons ?_ (up_run s3 hd (fun i v h => ?_) b t)
    · cases u with
      | un => exact SOk.un
      | pu =>
        match o, a, hv 0 with
        | some v, a, hv =>
          have e : vs j = v := hv v rfl
          exact ⟨e.symm, by rw [e]; exact Dt.mono s3 a⟩
      | kp =>
        match o, a with
        | some v, a => exact Dt.mono s3 a
      | tb =>
        match o, a with
        | some v, a => exact ⟨a, hd⟩
      | rf =>
        match o, a with
        | some v, a => exact a
    · have := hv (i + 1) v (by simpa using h)
      rw [← this]
      congr 1
      omega
theorem dn_run {F F3 F' : Hp} {rs rs3 rs1 rs2 : List SD} (dn : DnL rs rs3 rs1 rs2) : ∀ {σ σ1 : L2.St}, Paired (SOk F) σ rs → Paired (SOk F3) σ rs3 → Paired (SOk F') σ1 rs1 → Paired (SOk F) σ1 rs2 := by
  induction dn with
  | nil =>
    intro σ σ1 _ _ h
    cases h
    exact .nil
  | @cons r r3 r1 r2 rs rs3 rs1 rs2 u t ih =>
    intro σ σ1 h h3 h1
    cases h with
    | @cons o _ σ _ a b =>
      cases h3 with
      | cons a3 b3 =>
        cases h1 with
        | @cons o1 _ σ1 _ a1 b1 =>
          refine .cons ?_ (ih b b3 b1)
          cases u with
          | un => exact SOk.un
          | sc hs =>
            match o1, a1 with
            | some v, a1 => exact scal_dt a1 hs
          | bk =>
            match o, o1, a3, a1, a with
            | some v, some v1, a3, a1, a =>
              obtain ⟨e1, _⟩ := a3
              obtain ⟨e2, _⟩ := a1
              rw [e2, ← e1]
              exact a
          | rf =>
            match o1, a1 with
            | some v, a1 => exact a1
/-- a statement over a table that changes elsewhere -/
theorem sthaw {ρ3 : (Nat → V) → List SD} (pm : M.Perm ((l, .lst (rows.map rowR)) :: (rows.map rowM ++ Mz))) (hup : ∀ vs, UpL vs l (tab (rows.map (·.2))) 0 ρ (ρ3 vs))
    (h : ∀ vs, GS X (ρ3 vs) [] st ⟨fun ρ1 _ => ∃ ρ2, D.nx ρ2 M ∧ DnL ρ (ρ3 vs) ρ1 ρ2, fun _ _ => False, fun _ _ => False, fun _ _ => False⟩) : GS X ρ M st D := .mk fun B F H σ D' W S s => by
  obtain ⟨F3, s3, W3, d⟩ := deep_frz W pm
  let vs : Nat → V := fun j => (σ[j]?.getD none).getD .non
  have S3 := up_run (vs := vs) s3 d (j := 0) (fun i v hi => by show ((σ[0 + i]?.getD none).getD .non) = v; rw [Nat.zero_add, hi]; rfl) S (hup vs)
  refine h vs (here F3 H []) F3 H σ D' W3 S3 ⟨fun ρ1 M1 σ1 F1 H1 q W1 s1 S1 => ?_, fun _ _ _ _ _ q => False.elim q, fun _ _ _ _ _ q => False.elim q, fun _ _ _ _ _ q => False.elim q⟩
  obtain ⟨ρ2, q, dn⟩ := q
  exact s.nx ρ2 M σ1 F H1 q (W.back s3 s1 W1) (Same.refl F) (dn_run dn S S3 S1)
end
end G

namespace G
open PySem PySem.Spec PyProof.Rows L2
/-- for x in l, while the body writes to what l holds -/
theorem sforM {X : Cx} {ρ : List SD} {M : Mem} {tg it : Expr} {body : List Stmt} {pos : Pos} {D : GD} (hp : PassesOwn (model X.prog X.w) X.A X.env X.xe) (hc : X.calm = true)
    (h : GE X ρ M it fun x M1 => ∃ (l : Addr) (n : Nat) (Pv : Nat → List SD → Mem → Prop), x = .rf (.ref l) ∧ Pv 0 ρ M1 ∧ (∀ i ρ' M', Pv i ρ' M' → ∃ xs, (l, MO.lst xs) ∈ M' ∧ xs.length = n) ∧
      (∀ i ρ' M', i < n → Pv i ρ' M' → ∃ xs, (l, MO.lst xs) ∈ M' ∧ GG X ρ' M' tg (xs.getD i .un) fun ρ2 M2 => GB X ρ2 M2 body ⟨Pv (i + 1), D.rt, D.nx, Pv (i + 1)⟩) ∧ ∀ ρ' M', Pv n ρ' M' → D.nx ρ' M')
    (hs : ∀ x, foldedSetIterable it X.env x = pure x := by intro _; rfl) : GS X ρ M (.For tg it body [] pos) D := .mk fun B F H σ D' W S s => by
  refine wS_of (ps_for hp hc (pi_list pE) pG pB hs) (h B F H σ _ W S fun x M1 v F1 H1 hx W1 s1 vx => ?_)
  obtain ⟨l, n, Pv, rfl, p0, there, turn, fin⟩ := hx
  obtain rfl : v = .ref l := vx
  have look : ∀ i ρ' M' F' H', Pv i ρ' M' → Wd B F' H' M' → ∃ vs, H' l = some (.lst vs) ∧ vs.length = n := fun i ρ' M' F' H' pv W' => by
    obtain ⟨xs, hm, hl⟩ := there i ρ' M' pv
    obtain ⟨_, vs, e1, e2⟩ := W'.mem _ hm
    exact ⟨vs, e1, by rw [Paired.length e2, hl]⟩
  obtain ⟨vs0, ev0, _⟩ := look 0 _ _ _ _ p0 W1
  refine ⟨l, rfl, ⟨_, .of ev0⟩, ?_⟩
  refine ⟨fun i m σ' H' => i + m = n ∧ ∃ ρ' M' F', Pv i ρ' M' ∧ Wd B F' H' M' ∧ Same F1 F' ∧ Paired (SOk F') σ' ρ', ⟨n, Nat.zero_add n, ρ, M1, F1, p0, W1, Same.refl F1, pMono s1 S⟩, ?_⟩
  rintro i m σ' H' ⟨him, ρ', M', F', pv, W', s', S'⟩
  obtain ⟨vs, ev, el⟩ := look i _ _ _ _ pv W'
  by_cases hi : i < n
  · have hv : i < vs.length := by omega
    refine .inr ⟨⟨vs, vs[i]'hv, .of ev, List.getElem?_eq_getElem hv⟩, fun σ2 H2 => ∃ ρ2 M2 F2, Pv (i + 1) ρ2 M2 ∧ Wd B F2 H2 M2 ∧ Same F1 F2 ∧ Paired (SOk F2) σ2 ρ2, fun σ2 H2 ⟨ρ2, M2, F2, q1, q2, q3, q4⟩ => ⟨m - 1, by omega, by omega, ρ2, M2, F2, q1, q2, q3, q4⟩, fun x H2 y => ?_⟩
    obtain ⟨rfl, y⟩ := y
    obtain ⟨xs, hm, q⟩ := turn i ρ' M' hi pv
    obtain ⟨_, vs', e1, e2⟩ := W'.mem _ hm
    have e : vs = vs' := by
      have := ev.symm.trans e1
      injection this with this
      injection this
    subst e
    have g := y vs (.of ev)
    obtain ⟨v, h1, h2⟩ := paired_at e2 (List.getElem?_eq_getElem (show i < xs.length by rw [← Paired.length e2]; exact hv))
    have e : v = x := Option.some.inj (h1.symm.trans g)
    subst e
    have h2 : VOk F' v (xs.getD i .un) := by
      rw [List.getD_eq_getElem?_getD, List.getElem?_eq_getElem (show i < xs.length by rw [← Paired.length e2]; exact hv)]
      exact h2
    refine q B F' _ σ' v _ W' S' h2 fun ρ3 M3 σ3 F3 H3 q W3 s3 S3 => ?_
    refine (show GB X ρ3 M3 body _ from q) B F3 H3 σ3 _ W3 S3 ⟨?_, ?_, ?_, ?_⟩
    · exact fun ρ4 M4 σ4 F4 H4 q W4 s4 S4 => ⟨ρ4, M4, F4, q, W4, (s'.trans s3).trans s4, S4⟩
    · exact s.rt.mono ((s1.trans s').trans s3)
    · exact s.nx.mono ((s1.trans s').trans s3)
    · exact fun ρ4 M4 σ4 F4 H4 q W4 s4 S4 => ⟨ρ4, M4, F4, q, W4, (s'.trans s3).trans s4, S4⟩
  · have e : i = n := by omega
    subst e
    exact .inl ⟨⟨vs, .of ev, by omega⟩, s.nx ρ' M' σ' F' H' (fin ρ' M' pv) W' (s1.trans s') S'⟩
end G

namespace G
open PySem PySem.Spec PyProof.Rows L2
/-! ### more of dicts whose keys are tuples of ints -/
abbrev KE (kvs : List (List Int × SD)) : List (List Key × SD) := kvs.map fun e => (kI e.1, e.2)
theorem valS_none {F : Hp} {vs : List (List Key × V)} {kvs : List (List Key × SD)} (h : Paired (DEnt F) vs kvs) {k : List Key} (e : valS kvs k = none) : valV vs k = none := by
  induction h with
  | nil => rfl
  | @cons a b as bs h t ih =>
    unfold valS at e
    unfold valV
    rw [List.find?_cons] at e ⊢
    rw [h.1]
    by_cases q : b.1 = k
    · rw [decide_eq_true q] at e
      cases e
    · rw [decide_eq_false q] at e ⊢
      exact ih e
theorem paired_at' {α β : Type} {R : α → β → Prop} : ∀ {as : List α} {bs : List β} {i : Nat} {a : α}, Paired R as bs → as[i]? = some a → ∃ b, bs[i]? = some b ∧ R a b
  | _, _, i, a, .nil, h => nomatch h
  | x :: as, y :: bs, 0, a, .cons h t, e => by
    cases e
    exact ⟨y, rfl, h⟩
  | x :: as, y :: bs, i + 1, a, .cons h t, e => paired_at' (i := i) t e
theorem tI_dt {F : Hp} {q : Addr} {ns : List Int} (h : F q = some (.tup ((kI ns).map kV))) : Dt F (.ref q) (tI ns) := by
  refine .tup h ?_
  rw [kI_kV]
  clear h
  induction ns with
  | nil => exact .nil
  | cons n ns ih => exact .cons (.int n) ih
/-- a tuple that stands there may be known -/
theorem Wd.seen {B : Bs} {F H : Hp} {M : Mem} (W : Wd B F H M) {q : Addr} {xs : List V} (h : H q = some (.tup xs)) : ∃ F2, Same F F2 ∧ Wd B F2 H M ∧ F2 q = some (.tup xs) := by
  cases e : F q with
  | some o =>
    have e2 := (W.fh _ _ e).symm.trans h
    cases e2
    exact ⟨F, Same.refl F, W, e⟩
  | none =>
    have sf : Same F (upd F q (.tup xs)) := fun a u e1 => by
      rw [upd_ne (ne_of_none e1 e)]
      exact e1
    refine ⟨upd F q (.tup xs), sf, ⟨fun a u e1 => ?_, fun a u e1 => sf a u (W.f0 a u e1), fun a u e1 => ?_, W.keep, W.dom, fun p hp => ?_, W.nd, W.new⟩, upd_same⟩
    · by_cases z : a = q
      · rw [z, upd_same] at e1
        rw [z, h]
        exact e1
      · rw [upd_ne z] at e1
        exact W.fh a u e1
    · by_cases z : a = q
      · rw [z, upd_same] at e1
        exact .inl (.inr ⟨xs, (Option.some.inj e1).symm⟩)
      · rw [upd_ne z] at e1
        exact W.fnew a u e1
    · obtain ⟨g1, g2⟩ := W.mem p hp
      refine ⟨?_, g2.mono sf fun u e => e⟩
      rw [upd_ne]
      · exact g1
      · intro z
        rw [← z] at h
        exact g2.notup h
section
variable {X : Cx} {ρ : List SD} {M : Mem} {Q : Kn} {pos pos' apos cpos : Pos} {o i value k v e f : Expr} {D : GD}
/-- {} -/
theorem gdnew (h : ∀ d, Q (.rf (.ref d)) ((d, .dct []) :: M)) : GE X ρ M (.Dict [] [] pos) Q := .mk fun B F H σ Q' W S s => wE_of pe_dnewT fun p hp => s _ _ _ F _ (h p) (W.newd hp) (Same.refl F) rfl
/-- d.get(k, z) -/
theorem gdget2 (hu : X.A.units + 1 < cLine) (h : GE X ρ M o fun x M1 => ∃ d kvs0, x = .rf (.ref d) ∧ (d, MO.dct kvs0) ∈ M1 ∧ GE X ρ M1 e fun y M2 => GE X ρ M2 f fun z M3 => ∃ kvs ns, (d, MO.dct kvs) ∈ M3 ∧ y = .pu (tI ns) ∧ (∀ r, valS kvs (kI ns) = some r → Q r M3) ∧ (valS kvs (kI ns) = none → Q z M3))
    (m : M2 X o "get" apos e f cpos := by exact ⟨rfl, rfl, rfl, rfl⟩) : GE X ρ M (.Call (.Attribute o "get" apos) [e, f] [] cpos) Q := .mk fun B F H σ Q' W S s => by
  refine wE_of (pe_dget2 hu pE pE pE m) (h.run B F H σ _ W S fun x M1 u F1 H1 hx W1 s1 vx => ?_)
  obtain ⟨d, kvs0, rfl, hm0, hx⟩ := hx
  obtain rfl : u = .ref d := vx
  obtain ⟨_, vs0, g0, _⟩ := W1.mem _ hm0
  refine ⟨d, rfl, .inr ⟨vs0, .of g0⟩, ?_⟩
  refine hx.run B F1 H1 σ _ W1 (pMono s1 S) fun y M2 w F2 H2 hy W2 s2 wy => ?_
  refine (show GE X ρ M2 f _ from hy).run B F2 H2 σ _ W2 (pMono (s1.trans s2) S) fun z M3 t F3 H3 hz W3 s3 vz => ?_
  obtain ⟨kvs, ns, hm, rfl, q1, q2⟩ := hz
  obtain ⟨f1, vs, f2, f3⟩ := W3.mem _ hm
  obtain ⟨b, rfl, hb⟩ := tI_at (SOk.mono s3 wy)
  refine ⟨_, DGet.t (kvs := vs) (k := kI ns) f2 (W3.fh _ _ hb), ?_⟩
  cases e : valS kvs (kI ns) with
  | some r =>
    obtain ⟨v, e1, e2⟩ := valS_rel f3 e
    rw [e1]
    exact s r M3 v F3 H3 (q1 r e) W3 ((s1.trans s2).trans s3) e2
  | none =>
    rw [valS_none f3 e]
    exact s z M3 t F3 H3 (q2 e) W3 ((s1.trans s2).trans s3) vz
/-- d[k], d walked over -/
theorem gdgetF (hu : X.A.units + 1 < cLine) (h : GE X ρ M o fun x M1 => GE X ρ M1 i fun y M2 => ∃ d oo vv kvs ns r, x = .rf (.ref d) ∧ (d, MO.fdc oo vv kvs) ∈ M2 ∧ y = .pu (tI ns) ∧ valS kvs (kI ns) = some r ∧ Q r M2) (hs : NoSl i := by intro _ _; rfl) : GE X ρ M (.Subscript o i pos) Q := .mk fun B F H σ Q' W S s => by
  refine wE_of (pe_dget hu pE pE hs) (h B F H σ _ W S fun x M1 u F1 H1 hx W1 s1 vx => ?_)
  refine hx B F1 H1 σ _ W1 (pMono s1 S) fun y M2 w F2 H2 hy W2 s2 wy => ?_
  obtain ⟨d, oo, vv, kvs, ns, r, rfl, hm, rfl, hr, q⟩ := hy
  have vx : u = .ref d := vx
  subst vx
  obtain ⟨f1, f2, f3⟩ := W2.mem _ hm
  obtain ⟨b, rfl, hb⟩ := tI_at wy
  obtain ⟨v, e1, e2⟩ := valS_rel f3 hr
  refine ⟨d, v, rfl, ?_, s r M2 v F2 H2 q W2 (s1.trans s2) e2⟩
  have z : DGet H2 d (.ref b) (valV vv (kI ns)) := .inr ⟨vv, kI ns, b, .inr ⟨oo, f2⟩, rfl, W2.fh _ _ hb, rfl⟩
  rw [e1] at z
  exact z
/-- len(d) -/
theorem gdlen {p : Pos} (hm : X.mg "len" = none) (h : GE X ρ M e fun x M1 => ∃ d kvs, x = .rf (.ref d) ∧ (d, MO.dct kvs) ∈ M1 ∧ Q (.pu (.int ((kvs.length : Nat) : Int))) M1) (hg : Gl X "len" := by rfl) (he : starEach [e] X.env = [(false, eval e X.env)] := by rfl) : GE X ρ M (.Call (.Name "len" p) [e] [] pos) Q :=
  gcb call_len_dT hm PySem.boot_len (acons (h.mono fun x M1 ⟨d, kvs, ex, hd, q⟩ => anil fun B F H vs Q' W hvs s => by
    obtain ⟨v, rfl, hv⟩ := p1 hvs
    subst ex
    obtain rfl : v = .ref d := hv
    obtain ⟨f1, ws, f2, f3⟩ := W.mem _ hd
    refine ⟨d, ws, rfl, f2, ?_⟩
    rw [Paired.length f3]
    exact s _ M1 _ F H q W (Same.refl F) (.int _)) he) hg (he := he)
end
/-- for k in d -/
theorem sforD {X : Cx} {ρ : List SD} {M Mr : Mem} {tg it : Expr} {body : List Stmt} {pos : Pos} {D : GD} {d : Addr} {kvs : List (List Int × SD)} (hp : PassesOwn (model X.prog X.w) X.A X.env X.xe) (hc : X.calm = true) (pm : M.Perm ((d, .dct (KE kvs)) :: Mr))
    (h : ∀ oo vv, GE X ρ ((d, .fdc oo vv (KE kvs)) :: Mr) it fun x M1 => x = .rf (.ref d) ∧ ∃ Pv : Nat → List SD → Mem → Prop, Pv 0 ρ M1 ∧ (∀ i ρ' M', Pv i ρ' M' → ∃ M4, M'.Perm ((d, .fdc oo vv (KE kvs)) :: M4) ∧ (i = kvs.length → D.nx ρ' ((d, .dct (KE kvs)) :: M4))) ∧
      ∀ i (hi : i < kvs.length) ρ' M', Pv i ρ' M' → GG X ρ' M' tg (.pu (tI kvs[i].1)) fun ρ2 M2 => GB X ρ2 M2 body ⟨Pv (i + 1), fun r M3 => ∃ M4, M3.Perm ((d, .fdc oo vv (KE kvs)) :: M4) ∧ D.rt r ((d, .dct (KE kvs)) :: M4), fun ρ3 M3 => ∃ M4, M3.Perm ((d, .fdc oo vv (KE kvs)) :: M4) ∧ D.nx ρ3 ((d, .dct (KE kvs)) :: M4), Pv (i + 1)⟩)
    (hs : ∀ x, foldedSetIterable it X.env x = pure x := by intro _; rfl) : GS X ρ M (.For tg it body [] pos) D := .mk fun B F H σ D' W S s => by
  have W0 := W.perm pm
  obtain ⟨f1, vs, f2, f3⟩ := W0.mem _ List.mem_cons_self
  have ln : vs.length = kvs.length := (Paired.length f3).trans (List.length_map _)
  refine wS_of (ps_lock (ps_for hp hc (pi_keys pE) pG pB hs)) ⟨d, .dT vs, f2, trivial, fun od => ?_⟩
  have W2 := W0.writeG (u := .frz od (.dT vs)) (mo' := .fdc od vs (KE kvs)) ⟨upd_same, f3⟩
  have back : ∀ {F' H' : Hp} {M' M4 : Mem}, Wd B F' H' M' → M'.Perm ((d, .fdc od vs (KE kvs)) :: M4) → H' d = some (.frz od (.dT vs)) ∧ Wd B F' (upd H' d (.dT vs)) ((d, .dct (KE kvs)) :: M4) := fun W' pm' => by
    have W3 := W'.perm pm'
    obtain ⟨g1, g2, g3⟩ := W3.mem _ List.mem_cons_self
    exact ⟨g2, W3.writeG ⟨vs, upd_same, g3⟩⟩
  refine h od vs B F _ σ _ W2 S fun x M1 v F1 H1 hx W1 s1 vx => ?_
  obtain ⟨rfl, Pv, p0, fin, turn⟩ := hx
  obtain rfl : v = .ref d := vx
  have look : ∀ {i ρ' M' F' H'}, Pv i ρ' M' → Wd B F' H' M' → H' d = some (.frz od (.dT vs)) := fun pv W' => by
    obtain ⟨M4, pm', _⟩ := fin _ _ _ pv
    exact (back W' pm').1
  refine ⟨d, od, rfl, .inr ⟨vs, look p0 W1, ?_⟩⟩
  refine ⟨fun i m σ' H' => i + m = kvs.length ∧ ∃ ρ' M' F', Pv i ρ' M' ∧ Wd B F' H' M' ∧ Same F1 F' ∧ Paired (SOk F') σ' ρ', ⟨kvs.length, Nat.zero_add _, ρ, M1, F1, p0, W1, Same.refl F1, pMono s1 S⟩, ?_⟩
  rintro i m σ' H' ⟨him, ρ', M', F', pv, W', s', S'⟩
  have hd := look pv W'
  by_cases hi : i < kvs.length
  · refine .inr ⟨⟨hd, by omega⟩, fun σ2 H2 => ∃ ρ2 M2 F2, Pv (i + 1) ρ2 M2 ∧ Wd B F2 H2 M2 ∧ Same F1 F2 ∧ Paired (SOk F2) σ2 ρ2, fun σ2 H2 ⟨ρ2, M2, F2, q1, q2, q3, q4⟩ => ⟨m - 1, by omega, by omega, ρ2, M2, F2, q1, q2, q3, q4⟩, fun x H2 y => ?_⟩
    obtain ⟨rfl, k, v, q, hk, rfl, hq⟩ := y
    have ek : k = kI (kvs[i]'hi).1 := by
      obtain ⟨y, e1, e2⟩ := paired_at' f3 hk
      have e3 : (KE kvs)[i]? = some (kI (kvs[i]'hi).1, (kvs[i]'hi).2) := by rw [List.getElem?_map, List.getElem?_eq_getElem hi]; rfl
      rw [e3] at e1
      cases e1
      exact e2.1
    subst ek
    obtain ⟨F2, s2, W3, e2⟩ := W'.seen hq
    refine turn i hi ρ' M' pv B F2 _ σ' (.ref q) _ W3 (pMono s2 S') (tI_dt e2) fun ρ3 M3 σ3 F3 H3 q W4 s3 S3 => ?_
    refine (show GB X ρ3 M3 body _ from q) B F3 H3 σ3 _ W4 S3 ⟨?_, ?_, ?_, ?_⟩
    · exact fun ρ4 M4 σ4 F4 H4 q W5 s4 S4 => ⟨ρ4, M4, F4, q, W5, ((s'.trans s2).trans s3).trans s4, S4⟩
    · rintro r M4 v F4 H4 ⟨M5, pm', q⟩ W5 s4 vv
      obtain ⟨g1, g2⟩ := back W5 pm'
      exact ⟨g1, s.rt r _ v F4 _ q g2 (((s1.trans s').trans (s2.trans s3)).trans s4) vv⟩
    · rintro ρ4 M4 σ4 F4 H4 ⟨M5, pm', q⟩ W5 s4 S4
      obtain ⟨g1, g2⟩ := back W5 pm'
      exact ⟨g1, s.nx ρ4 _ σ4 F4 _ q g2 (((s1.trans s').trans (s2.trans s3)).trans s4) S4⟩
    · exact fun ρ4 M4 σ4 F4 H4 q W5 s4 S4 => ⟨ρ4, M4, F4, q, W5, ((s'.trans s2).trans s3).trans s4, S4⟩
  · have e : i = kvs.length := by omega
    obtain ⟨M5, pm', q⟩ := fin _ _ _ pv
    obtain ⟨g1, g2⟩ := back W' pm'
    exact .inl ⟨⟨hd, by omega⟩, g1, s.nx ρ' _ σ' F' _ (q e) g2 (s1.trans s') S'⟩
end G

namespace G
open PySem PySem.Spec PyProof.Rows L2
/-! ### texts -/
def sh (i : Int) : Str := Str.ofString (toString i)
abbrev txs (ys : List Str) : List SD := ys.map fun z => SD.pu (.str z)
theorem strs_of {F : Hp} : ∀ {vs : List V} {ys : List Str}, Paired (VOk F) vs (txs ys) → vs = ys.map V.str
  | _, [], .nil => rfl
  | _, y :: ys, .cons h t => by
    have h : Dt F _ (.str y) := h
    cases h
    rw [strs_of t]
    rfl
theorem of_strs {F : Hp} : ∀ (ys : List Str), Paired (VOk F) (ys.map V.str) (txs ys)
  | [] => .nil
  | y :: ys => .cons (Dt.str y) (of_strs ys)
theorem strs_pu (ys : List Str) : txs ys = (ys.map PyData.str).map SD.pu := by rw [List.map_map]; rfl
section
variable {X : Cx} {ρ : List SD} {M : Mem} {Q : Kn} {QT : Bool → Mem → Prop} {pos : Pos} {a b e o : Expr} {es : List Expr} {D : GD}
/-- str(i) -/
theorem gstrI {p : Pos} (hm : X.mg "str" = none) (h : GE X ρ M e fun x M1 => ∃ i, x = .pu (.int i) ∧ i.natAbs.log2 < 1920 ∧ Q (.pu (.str (sh i))) M1) (hg : Gl X "str" := by rfl) (he : starEach [e] X.env = [(false, eval e X.env)] := by rfl) : GE X ρ M (.Call (.Name "str" p) [e] [] pos) Q :=
  gct call_str_int hm PyProof.Rows.boot_str (acons (h.mono fun x M1 ⟨i, ex, hl, q⟩ => anil fun B F H vs Q' W hvs s => by
    subst ex
    obtain ⟨v, rfl, hv⟩ := p1 hvs
    have hv : Dt F v (.int i) := hv
    cases hv
    exact ⟨i, rfl, hl, s _ M1 _ F H q W (Same.refl F) (Dt.str (sh i))⟩) he) hg (he := he)
/-- int(text) -/
theorem gintS {p : Pos} (hm : X.mg "int" = none) (h : GE X ρ M e fun x M1 => ∃ z n, x = .pu (.str z) ∧ PySem.intText? z = some n ∧ z.length ≤ 640 ∧ Q (.pu (.int n)) M1) (hg : Gl X "int" := by rfl) (he : starEach [e] X.env = [(false, eval e X.env)] := by rfl) : GE X ρ M (.Call (.Name "int" p) [e] [] pos) Q :=
  gct call_int_str hm PyProof.Rows.boot_int (acons (h.mono fun x M1 ⟨z, n, ex, h1, h2, q⟩ => anil fun B F H vs Q' W hvs s => by
    subst ex
    obtain ⟨v, rfl, hv⟩ := p1 hvs
    have hv : Dt F v (.str z) := hv
    cases hv
    exact ⟨z, n, rfl, h1, h2, s _ M1 _ F H q W (Same.refl F) (Dt.int n)⟩) he) hg (he := he)
/-- sep.join(xs) -/
theorem gjoin {apos : Pos} (h : GE X ρ M o fun x M1 => ∃ z, x = .pu (.str z) ∧ GE X ρ M1 e fun y M2 => ∃ ys : List Str, LV M2 y (txs ys) ∧ (ys.map (·.length)).sum + ys.length * z.length ≤ 16777216 ∧ Q (.pu (.str (Str.join z ys))) M2)
    (hs : starEach [e] X.env = [(false, eval e X.env)] := by rfl) (hbase : attributeBase o "join" X.env (eval o X.env) = eval o X.env := by rfl) (hline : (apos.endLine == pos.line) = true := by rfl) : GE X ρ M (.Call (.Attribute o "join" apos) [e] [] pos) Q := .mk fun B F H σ Q' W S s => by
  refine wE_of (pe_join pE pE hs hbase hline) (h.run B F H σ _ W S fun x M1 v F1 H1 hx W1 s1 vx => ?_)
  obtain ⟨z, rfl, hx⟩ := hx
  have vx : Dt F1 v (.str z) := vx
  cases vx
  refine ⟨⟨z, rfl⟩, hx.run B F1 H1 σ _ W1 (pMono s1 S) fun y M2 u F2 H2 hy W2 s2 vy => ?_⟩
  obtain ⟨ys, lv, hl, q⟩ := hy
  obtain ⟨p, vs, rfl, hp, pr⟩ := lv.at W2 vy
  have ev := strs_of pr
  subst ev
  refine ⟨z, p, ys, rfl, rfl, .inl (.inl (.of hp)), hl, ?_⟩
  rw [TL.join_eq]
  exact s _ _ _ F2 _ q W2 (s1.trans s2) (Dt.str _)
/-- text.split(sep) -/
theorem gsplit {apos : Pos} (h : GE X ρ M o fun x M1 => ∃ z, x = .pu (.str z) ∧ GE X ρ M1 e fun y M2 => ∃ u, y = .pu (.str u) ∧ (u.length == 0) = false ∧ z.length + 2 ≤ sizeLine ∧ ∀ l, Q (.rf (.ref l)) ((l, .lst (txs (Txt.split z u))) :: M2))
    (hs : starEach [e] X.env = [(false, eval e X.env)] := by rfl) (hbase : attributeBase o "split" X.env (eval o X.env) = eval o X.env := by rfl) (hline : (apos.endLine == pos.line) = true := by rfl) : GE X ρ M (.Call (.Attribute o "split" apos) [e] [] pos) Q := .mk fun B F H σ Q' W S s => by
  refine wE_of (pe_split pE pE hs hbase hline) (h.run B F H σ _ W S fun x M1 v F1 H1 hx W1 s1 vx => ?_)
  obtain ⟨z, rfl, hx⟩ := hx
  have vx : Dt F1 v (.str z) := vx
  cases vx
  refine ⟨⟨z, rfl⟩, hx.run B F1 H1 σ _ W1 (pMono s1 S) fun y M2 u F2 H2 hy W2 s2 vy => ?_⟩
  obtain ⟨t, rfl, h1, h2, q⟩ := hy
  have vy : Dt F2 u (.str t) := vy
  cases vy
  exact ⟨z, t, rfl, rfl, h1, h2, fun p hp => s _ _ _ F2 _ (q p) (W2.newl hp (of_strs _)) (s1.trans s2) rfl⟩
/-- text.startswith(other) -/
theorem gstarts {apos : Pos} (h : GE X ρ M o fun x M1 => ∃ z, x = .pu (.str z) ∧ GE X ρ M1 e fun y M2 => ∃ u, y = .pu (.str u) ∧ Q (.pu (.bool (Txt.startswith z u))) M2)
    (hs : starEach [e] X.env = [(false, eval e X.env)] := by rfl) (hbase : attributeBase o "startswith" X.env (eval o X.env) = eval o X.env := by rfl) (hline : (apos.endLine == pos.line) = true := by rfl) : GE X ρ M (.Call (.Attribute o "startswith" apos) [e] [] pos) Q := .mk fun B F H σ Q' W S s => by
  refine wE_of (pe_m1 PySem.F.slot_str_startswith PySem.F.type_str_startswith mt_startswith pE pE hs hbase hline) (h.run B F H σ _ W S fun x M1 v F1 H1 hx W1 s1 vx => ?_)
  obtain ⟨z, rfl, hx⟩ := hx
  have vx : Dt F1 v (.str z) := vx
  cases vx
  refine ⟨⟨z, rfl⟩, hx.run B F1 H1 σ _ W1 (pMono s1 S) fun y M2 u F2 H2 hy W2 s2 vy => ?_⟩
  obtain ⟨t, rfl, q⟩ := hy
  have vy : Dt F2 u (.str t) := vy
  cases vy
  exact ⟨z, t, rfl, rfl, s _ _ _ F2 _ q W2 (s1.trans s2) (Dt.bl _)⟩
/-- text[lo:hi] -/
theorem gslT {lo hi : Option Expr} {p2 : Pos} (h : GE X ρ M e fun x M1 => GO X ρ M1 (fun i M2 => GO X ρ M2 (fun j M3 => ∃ z, x = .pu (.str z) ∧ z.length ≤ sizeLine ∧ Q (.pu (.str (cutS z i j))) M3) hi) lo) : GE X ρ M (.Subscript e (.Slice lo hi none p2) pos) Q := .mk fun B F H σ Q' W S s => by
  refine wE_of (pe_slice sl_str pE pOpt pOpt) (h.run B F H σ _ W S fun x M1 v F1 H1 hx W1 s1 vx => ?_)
  refine goRun W1 (pMono s1 S) (fun i M2 F2 H2 hy W2 s2 => ?_) hx
  refine goRun W2 (pMono (s1.trans s2) S) (fun j M3 F3 H3 hz W3 s3 => ?_) hy
  obtain ⟨z, rfl, hl, q⟩ := hz
  have vx : Dt F1 v (.str z) := vx
  cases vx
  exact ⟨z, rfl, hl, s _ _ _ F3 _ q W3 ((s1.trans s2).trans s3) (Dt.str _)⟩
/-- sign in text -/
theorem ginS (h : GE X ρ M a fun x M1 => ∃ c : Nat, x = .pu (.str ⟨#[c]⟩) ∧ GE X ρ M1 b fun y M2 => ∃ z, y = .pu (.str z) ∧ Q (.pu (.bool (decide (c ∈ z.cps.toList)))) M2) (hm : behindInMarks .In b = false := by with_unfolding_all rfl) : GE X ρ M (.Compare a [.In] [b] pos) Q :=
  geC op_in_sign hm (h.mono fun x M1 ⟨c, ex, h⟩ => h.mono fun y M2 ⟨z, ey, q⟩ => fun B F H v w Q' W hv hw s => by
    subst ex
    subst ey
    have hv : Dt F v (.str ⟨#[c]⟩) := hv
    have hw : Dt F w (.str z) := hw
    cases hv
    cases hw
    exact ⟨c, z, rfl, rfl, s _ _ _ F _ q W (Same.refl F) (Dt.bl _)⟩)
theorem git_str {F : Hp} {z : Str} : GIt F (Its z) z.cps.size (fun i => .pu (.str ⟨#[z.cps.getD i 0]⟩)) where
  go := fun i F' H s1 s2 hi => hi
  stop := fun F' H s1 s2 => Nat.le_refl _
  yld := fun i B F' H M x H' hi s1 W y => by
    obtain ⟨rfl, c, hc, rfl⟩ := y
    refine ⟨F', Same.refl F', W, ?_⟩
    have e : z.cps.getD i 0 = c := by
      rw [Array.getD_eq_getD_getElem?, hc]
      rfl
    show VOk F' _ (.pu (.str ⟨#[z.cps.getD i 0]⟩))
    rw [e]
    exact Dt.str _
variable {QI : Nat → (Nat → SD) → Mem → Prop} {tg : Expr}
theorem igstr (h : GE X ρ M e fun x M1 => ∃ z, x = .pu (.str z) ∧ QI z.cps.size (fun i => .pu (.str ⟨#[z.cps.getD i 0]⟩)) M1) : GI X ρ M tg e QI := .mk fun B F H σ R' W S s => by
  refine wI_of (pi_str pE) (h.run B F H σ _ W S fun x M1 v F1 H1 hx W1 s1 vx => ?_)
  obtain ⟨z, rfl, q⟩ := hx
  have vx : Dt F1 v (.str z) := vx
  cases vx
  exact ⟨z, rfl, s _ _ M1 _ F1 H1 q W1 s1 git_str⟩
/-- o.pop() -/
theorem gpop0 {apos cpos : Pos} (h : GE X ρ M o fun x M1 => ∃ (l : Addr) (xs : List SD) (r : SD) (Ma Mb : Mem), x = .rf (.ref l) ∧ M1 = Ma ++ (l, .lst (xs ++ [r])) :: Mb ∧ Q r (Ma ++ (l, .lst xs) :: Mb))
    (hbase : attributeBase o "pop" X.env (eval o X.env) = eval o X.env := by rfl)
    (hline : (apos.endLine == cpos.line) = true := by rfl) :
    GE X ρ M (.Call (.Attribute o "pop" apos) [] [] cpos) Q := .mk fun B F H σ Q' W S s => by
  refine wE_of (pe_bm0 PySem.F.plainAttrs_list PySem.F.slot_list_pop PySem.F.type_list_pop mt_pop pE hbase hline) (h.run B F H σ _ W S fun x M1 v F1 H1 hx W1 s1 vx => ?_)
  obtain ⟨l, xs, r, Ma, Mb, rfl, rfl, q⟩ := hx
  have vx : v = .ref l := vx
  subst vx
  obtain ⟨f1, vs, f2, f3⟩ := W1.mem (l, .lst (xs ++ [r])) (by simp)
  refine ⟨.inl ⟨rfl, _, .of f2⟩, ?_⟩
  have len := Paired.length f3
  rw [List.length_append] at len
  have len : vs.length = xs.length + 1 := len
  have ht : (xs ++ [r])[vs.length - 1]? = some r := by
    rw [len]
    simp
  obtain ⟨u, u1, u2⟩ := paired_at f3 ht
  have ed : vs.dropLast = vs.take xs.length := by rw [List.dropLast_eq_take, len]; rfl
  have W3 := (W1.perm List.perm_middle).write (ys := xs) (ws := vs.dropLast) (by
    rw [ed]
    have z := paired_take xs.length f3
    rwa [List.take_left'] at z
    rfl)
  exact ⟨l, vs, u, rfl, rfl, f2, u1, s _ _ _ F1 _ q (W3.perm List.perm_middle.symm) s1 u2⟩
/-- x, y = a, b -/
theorem spar (i j : Nat) {x y : Str} {px py pt pt2 : Pos} {kt k2 : Nat} (hc : X.calm = true) (hN : X.N.Nodup) (h : GA X ρ M [a, b] fun rs M1 => ∃ r t, rs = [r, t] ∧ D.nx ((ρ.set i r).set j t) M1)
    (hi : X.N[i]? = some x := by rfl) (hj : X.N[j]? = some y := by rfl) (hij : i ≠ j := by decide) (hx : X.env.scope.names.lookup x = some .local := by rfl) (hy : X.env.scope.names.lookup y = some .local := by rfl)
    (hw : swappedStores [.Tuple [.Name x px, .Name y py] kt pt] (.Tuple [a, b] k2 pt2) X.env = pure (some [x, y]) := by rfl) : GS X ρ M (.Assign [.Tuple [.Name x px, .Name y py] kt pt] (.Tuple [a, b] k2 pt2) pos) D := .mk fun B F H σ D' W S s => by
  refine wS_of (ps_par (ta := wA X [a, b]) hc hN hi hj hij hx hy pA hw) (h.run B F H σ _ W S fun rs M1 vs F1 H1 hx W1 s1 vx => ?_)
  obtain ⟨r, t, rfl, q⟩ := hx
  obtain ⟨v, w, rfl, h1, h2⟩ := p2 vx
  exact ⟨v, w, rfl, s.nx _ _ _ F1 _ q W1 s1 (pset h2 j (pset h1 i (pMono s1 S)))⟩
end
end G

/-! ### blocks that may raise: freezing, forgetting; isinstance of more things -/
namespace G
open PySem PySem.Spec PyProof.Rows L2
section
variable {X : Cx} {ρ : List SD} {M : Mem} {Q : Kn} {QT : Bool → Mem → Prop} {Ex : XKn} {D : GD} {pos : Pos} {a b e : Expr}
/-- a list that a name holds is frozen ahead of the next statements -/
theorem bxz (i : Nat) {l : Addr} {ds : List PyData} {M2 : Mem} {sts : List Stmt} (hr : ρ[i]? = some (.rf (.ref l))) (h : GBx X (ρ.set i (.pu (.list ds))) M2 sts D Ex) : GBx X ρ ((l, .lst (ds.map .pu)) :: M2) sts D Ex := ⟨fun B F H σ D' Wx tk hp W S s sx => by
  obtain ⟨F', s', W', d⟩ := W.freeze
  obtain ⟨o, ho, so⟩ := pget S hr
  have eo : o = some (.ref l) := by
    match o, so with
    | some v, so => exact congrArg some so
  subst eo
  have P := pset (σ := σ) (o := some (V.ref l)) (r := .pu (.list ds)) d i (pMono s' S)
  have es : σ.set i (some (V.ref l)) = σ := by
    refine List.ext_getElem? fun j => ?_
    rw [List.getElem?_set]
    by_cases e : i = j
    · subst e
      have hl : i < σ.length := by
        obtain ⟨h, _⟩ := List.getElem?_eq_some_iff.mp ho
        exact h
      rw [if_pos rfl, if_pos hl, ho]
    · rw [if_neg e]
  rw [es] at P
  exact h.run B F' H σ D' Wx tk hp W' P (s.mono s') (sx.mono s')⟩
theorem bxhld {L : Mem} {sts : List Stmt} (h : Hld L M) (q : GBx X ρ L sts D Ex) : GBx X ρ M sts D Ex := by
  obtain ⟨Mz, p⟩ := h
  exact bxperm p (bxforget (List.sublist_append_left L Mz) q)
/-- what isinstance(x, T) with a built-in T may be asked of, in a wider sense -/
inductive TyZ (M : Mem) : SD → String → Prop
  | of {r : SD} {T : String} : Ty M r T → TyZ M r T
  | dct {d : Addr} {kvs : List (List Key × SD)} : (d, MO.dct kvs) ∈ M → TyZ M (.rf (.ref d)) "dict"
  | dck {d : Addr} {kvs : List (Key × SD)} : (d, MO.dck kvs) ∈ M → TyZ M (.rf (.ref d)) "dict"
  | tp (vs : List V) : TyZ M (.tp vs) "tuple"
theorem gisiZ {p : Pos} (hm : X.mg "isinstance" = none) (h : GE X ρ M a fun x M1 => GE X ρ M1 b fun y M2 => ∃ T n k, TyZ M2 x T ∧ y = .rf (.ty n) ∧ kitB T n = some k ∧ Q (.pu (.bool k)) M2) (hg : Gl X "isinstance" := by rfl) (he : starEach [a, b] X.env = [(false, eval a X.env), (false, eval b X.env)] := by rfl) (he2 : starEach [b] X.env = [(false, eval b X.env)] := by rfl) :
    GE X ρ M (.Call (.Name "isinstance" p) [a, b] [] pos) Q :=
  gcb call_isi hm PyProof.Rows.boot_isinstance (acons (h.mono fun x M1 h => acons (h.mono fun y M2 ⟨T, n, k, ty, ey, hk, q⟩ => anil fun B F H vs Q' W hvs s => by
    subst ey
    obtain ⟨v, w, rfl, hv, hw⟩ := p2 hvs
    have hw : w = .ty n := hw
    subst hw
    have fin := s _ M2 _ F H q W (Same.refl F) (.bl k)
    cases ty with
    | dct hm =>
      have hv : v = .ref _ := hv
      subst hv
      obtain ⟨f1, vs, f2, f3⟩ := W.mem _ hm
      exact ⟨_, _, _, _, k, rfl, .ty n, .base (.dT f2), kit_ty hk, fin⟩
    | dck hm =>
      have hv : v = .ref _ := hv
      subst hv
      obtain ⟨f1, vs, f2, f3⟩ := W.mem _ hm
      exact ⟨_, _, _, _, k, rfl, .ty n, .base (.dK f2), kit_ty hk, fin⟩
    | tp vs =>
      obtain ⟨q, rfl, h1⟩ := hv
      exact ⟨_, _, _, _, k, rfl, .ty n, .base (.tup (W.fh _ _ h1)), kit_ty hk, fin⟩
    | of ty =>
      cases ty with
      | non =>
        have hv : Dt F v .none := hv
        cases hv
        exact ⟨_, _, _, _, k, rfl, .ty n, .base .non, kit_ty hk, fin⟩
      | bl b =>
        have hv : Dt F v (.bool b) := hv
        cases hv
        exact ⟨_, _, _, _, k, rfl, .ty n, .base (.bl b), kit_ty hk, fin⟩
      | int i =>
        have hv : Dt F v (.int i) := hv
        cases hv
        exact ⟨_, _, _, _, k, rfl, .ty n, .base (.int i), kit_ty hk, fin⟩
      | str i =>
        have hv : Dt F v (.str i) := hv
        cases hv
        exact ⟨_, _, _, _, k, rfl, .ty n, .base (.str i), kit_ty hk, fin⟩
      | lst lv =>
        obtain ⟨p, vs, rfl, hp, pr⟩ := lv.at W hv
        exact ⟨_, _, _, _, k, rfl, .ty n, .base (.lst hp), kit_ty hk, fin⟩
      | dic =>
        have hv : Dt F v (.dict []) := hv
        cases hv with
        | dic h1 => exact ⟨_, _, _, _, k, rfl, .ty n, .base (.dT (W.fh _ _ h1)), kit_ty hk, fin⟩
      | tup ds =>
        have hv : Dt F v (.tuple ds) := hv
        cases hv with
        | tup h1 h2 => exact ⟨_, _, _, _, k, rfl, .ty n, .base (.tup (W.fh _ _ h1)), kit_ty hk, fin⟩) he2) (by rw [he, he2])) hg (he := by rw [he, he2]) (hpl := by rw [he2]; rfl)
end
end G

/-! ### texts: a sign of one, not in, added, many times -/
namespace G
open PySem PySem.Spec PyProof.Rows L2
/-- a text, k times -/
def repT (k : Nat) (z : Str) : Str := ⟨(List.replicate k z.cps).foldl (· ++ ·) #[]⟩
theorem op_mul_txt {X : Cx} : OpR X (binaryOp .Mult) (fun x y H Q => ∃ (z : Str) (k : Nat), x = .str z ∧ y = .int (k : Int) ∧ 2 ≤ k ∧ k ≤ 100 ∧ 0 < z.length ∧ z.length ≤ 1000 ∧ (repT k z).length ≤ 100000 ∧ Q (.str (repT k z)) H) := by
  intro pins s σ H x y v u Q I rx ry h
  obtain ⟨z, k, rfl, rfl, h2, h9, hl, hm, hn, q⟩ := h
  obtain ⟨t, rfl⟩ := rx
  obtain ⟨t', rfl⟩ := ry
  have e1 : ((k : Int) == 1 || z.length == 0) = false := by
    rw [Bool.or_eq_false_iff]
    refine ⟨?_, ?_⟩
    · simp; omega
    · simp; omega
  refine PySem.P.mul_str ?_ ?_ ?_ ?_
  · rw [decide_eq_false (show ¬ ((k : Int) < -(2 ^ 63)) by omega), decide_eq_false (show ¬ ((k : Int) ≥ 2 ^ 63) by omega)]
    rfl
  · intro _ _
    refine fun h => ?_
    have e : (2 ^ 63 - 1) / (k : Int) ≥ 1000 := (Int.le_ediv_iff_mul_le (by omega)).mpr (by omega)
    omega
  · intro _ _
    have : z.length * (k : Int).toNat ≤ 1000 * 100 := Nat.mul_le_mul hm (by omega)
    unfold Builtin.Str.tooLong
    refine decide_eq_false ?_
    rw [sizeLine_eq]
    omega
  · rw [if_neg (by omega), e1, if_neg Bool.false_ne_true, Int.toNat_natCast]
    exact ⟨Nat.le_trans hn (by decide), .str _, H, I.tok _, ⟨_, rfl⟩, q⟩
section
variable {X : Cx} {ρ : List SD} {M : Mem} {Q : Kn} {QT : Bool → Mem → Prop} {pos : Pos} {a b e : Expr}
/-- text * k -/
theorem gmulT (h : GE X ρ M a fun x M1 => GE X ρ M1 b fun y M2 => ∃ (z : Str) (k : Nat), x = .pu (.str z) ∧ y = .pu (.int (k : Int)) ∧ 2 ≤ k ∧ k ≤ 100 ∧ 0 < z.length ∧ z.length ≤ 1000 ∧ (repT k z).length ≤ 100000 ∧ Q (.pu (.str (repT k z))) M2) : GE X ρ M (.BinOp a .Mult b pos) Q :=
  ge2 op_mul_txt (h.mono fun x M1 h => h.mono fun y M2 ⟨z, k, ex, ey, h1, h2, h3, h4, h5, q⟩ => fun B F H v w Q' W hv hw s => by
    subst ex ey
    have hv : Dt F v (.str z) := hv
    have hw : Dt F w (.int k) := hw
    cases hv
    cases hw
    exact ⟨z, k, rfl, rfl, h1, h2, h3, h4, h5, s _ _ _ F _ q W (Same.refl F) (Dt.str _)⟩)
/-- text + text -/
theorem gaddT (h : GE X ρ M a (s2 (fun i j M2 => i.length + j.length ≤ 100000 ∧ Q (.pu (.str (i ++ j))) M2) X ρ b)) : GE X ρ M (.BinOp a .Add b pos) Q :=
  ge2 op_add_str (h.mono fun x M1 ⟨i, ex, h⟩ => h.mono fun y M2 ⟨j, ey, hl, q⟩ => fun B F H v w Q' W hv hw s => by
    subst ex ey
    have hv : Dt F v (.str i) := hv
    have hw : Dt F w (.str j) := hw
    cases hv
    cases hw
    exact ⟨i, j, rfl, rfl, Nat.le_trans hl (by decide), s _ _ _ F _ q W (Same.refl F) (Dt.str _)⟩)
/-- text[i] -/
theorem gixT (h : GE X ρ M a fun x M1 => GE X ρ M1 b fun y M2 => ∃ z i c, x = .pu (.str z) ∧ y = .pu (.int i) ∧ z.length ≤ 100000 ∧ atI z.cps.toList i = some c ∧ Q (.pu (.str ⟨#[c]⟩)) M2) (hs : PlainIx b := by intro _ _; rfl) : GE X ρ M (.Subscript a b pos) Q := .mk fun B F H σ Q' W S s => by
  refine wE_of (pe_ix ix_str pE pE hs) (h B F H σ _ W S fun x M1 v F1 H1 hx W1 s1 vx => ?_)
  refine hx B F1 H1 σ _ W1 (pMono s1 S) fun y M2 w F2 H2 hy W2 s2 wy => ?_
  obtain ⟨z, i, c, rfl, rfl, hl, ha, q⟩ := hy
  have vx : Dt F1 v (.str z) := vx
  have wy : Dt F2 w (.int i) := wy
  cases vx
  cases wy
  exact ⟨z, i, c, rfl, rfl, Nat.le_trans hl (by decide), ha, s _ M2 _ F2 H2 q W2 (s1.trans s2) (Dt.str _)⟩
/-- len(text) -/
theorem glenT {p : Pos} (hm : X.mg "len" = none) (h : GE X ρ M e fun x M1 => ∃ z, x = .pu (.str z) ∧ z.length ≤ 100000 ∧ Q (.pu (.int (z.length : Int))) M1) (hg : Gl X "len" := by rfl) (he : starEach [e] X.env = [(false, eval e X.env)] := by rfl) : GE X ρ M (.Call (.Name "len" p) [e] [] pos) Q :=
  gcb call_len_str hm PySem.boot_len (acons (h.mono fun x M1 ⟨z, ex, hl, q⟩ => anil fun B F H vs Q' W hvs s => by
    subst ex
    obtain ⟨v, rfl, hv⟩ := p1 hvs
    have hv : Dt F v (.str z) := hv
    cases hv
    exact ⟨z, rfl, Nat.le_trans hl (by decide), s _ M1 _ F H q W (Same.refl F) (.int _)⟩) he) hg (he := he)
/-- sign not in text -/
theorem gniS (h : GE X ρ M a fun x M1 => ∃ c : Nat, x = .pu (.str ⟨#[c]⟩) ∧ GE X ρ M1 b fun y M2 => ∃ z, y = .pu (.str z) ∧ Q (.pu (.bool (!decide (c ∈ z.cps.toList)))) M2) (hm : behindInMarks .NotIn b = false := by with_unfolding_all rfl) : GE X ρ M (.Compare a [.NotIn] [b] pos) Q :=
  geC op_notIn_sign hm (h.mono fun x M1 ⟨c, ex, h⟩ => h.mono fun y M2 ⟨z, ey, q⟩ => fun B F H v w Q' W hv hw s => by
    subst ex
    subst ey
    have hv : Dt F v (.str ⟨#[c]⟩) := hv
    have hw : Dt F w (.str z) := hw
    cases hv
    cases hw
    exact ⟨c, z, rfl, rfl, s _ _ _ F _ q W (Same.refl F) (Dt.bl _)⟩)
theorem tniS (h : GE X ρ M a fun x M1 => ∃ c : Nat, x = .pu (.str ⟨#[c]⟩) ∧ GE X ρ M1 b fun y M2 => ∃ z, y = .pu (.str z) ∧ QT (!decide (c ∈ z.cps.toList)) M2) (hm : behindInMarks .NotIn b = false := by with_unfolding_all rfl) : GT X ρ M (.Compare a [.NotIn] [b] pos) QT :=
  gtC op_notIn_sign hm (h.mono fun x M1 ⟨c, ex, h⟩ => h.mono fun y M2 ⟨z, ey, q⟩ => fun B F H v w Q' W hv hw s => by
    subst ex
    subst ey
    have hv : Dt F v (.str ⟨#[c]⟩) := hv
    have hw : Dt F w (.str z) := hw
    cases hv
    cases hw
    exact ⟨c, z, rfl, rfl, s _ _ _ F _ ⟨_, rfl, q⟩ W (Same.refl F) (Dt.bl _)⟩)
end
end G

/-! ### an exception class with one field; outcomes -/
namespace G
open PySem PySem.Spec PyProof.Rows L2
structure XCls (P : Program) (K : PySem.W.Frag) (mg : Str → Option Value) (x field : Str) (C : Addr) : Prop where
  iv : PySem.IvX.IvT P K mg x field C
  ec : ExcC K C
  cl : (PySem.W.clsIn K C).isSome = true
  nf : PySem.W.findIn K (.ref C) field = some none
/-- a class without fields -/
structure XCls0 (P : Program) (K : PySem.W.Frag) (mg : Str → Option Value) (x : Str) (C : Addr) : Prop where
  gC : mg x = some (.ref C)
  ec : ExcC K C
  cl : (PySem.W.clsIn K C).isSome = true
theorem bootV : bootBuiltins "ValueError" = some (.type "ValueError") := by decide +kernel
theorem bootLk : bootBuiltins "LookupError" = some (.type "LookupError") := by decide +kernel
/-- the lambdas of the def x are called so -/
abbrev lamQ (x : Str) : Str := x ++ ".<locals>." ++ "<lambda>"
section
variable {P : Program} {w : World} {K : PySem.W.Frag} {mg : Str → Option Value} {base : Heap}
/-- THE RULE for a def whose code object is known -/
theorem fnGC {x qual : Str} {st : Stmt} {f : Addr} {fd : FuncData} {N ps : List Str} {k : Nat} {S : GSpec} {c : Addr} (F : Fun K x qual st f fd) (Sc : FnScope N ps (defScope st)) (hcode : fd.code = .ref c) (len : ∀ rs M Kk, S rs M Kk → rs.length = ps.length)
    (body : ∀ (A : Around) (outer : List Env) (s : Shared) (H : Hp), A.guards = some [] → Room k (A.deeper (envOfC qual (defScope st) s.heap.objs.size f (.ref c))) →
      ∀ rs M Kk, S rs M Kk → GB (bodyX P w K mg base N qual st f (.ref c) A outer s H) (rs ++ List.replicate (N.length - rs.length) .un) M (defBody st) (bodyD Kk)) :
    FnG P w K mg base (k + 1) f fd ps S := by
  obtain ⟨oc, od, kV, doc, pm, an, cdv, ct, osl, rfl, lk, hcd⟩ := F.ex
  have hcode : cdv = .ref c := hcode
  subst hcode
  refine ⟨len, fun A outer s H args us vs Q hgd hr e0 hb r hsp => ?_⟩
  obtain ⟨F', rs, M', Kk, hv, W, hS, sat⟩ := hsp
  have hl : vs.length = ps.length := by
    rw [Paired.length hv]
    exact len _ _ _ hS
  have old : ∀ b o, base.get? b = some o → s.heap.get? b = some o := fun b o q => (e0.bs b o q).1
  have KX : K.In s.heap := e0.mod.kin.keeps old
  have lim : s.heap.NoLimit := e0.mod.nolimit.keeps old
  have hkd : ∀ y ∈ ps.zip us, (defScope st).names.lookup y.1 = some .local ∨
      ((defScope st).names.lookup y.1 = some .cell ∧ ((cellsFrom (s.heap.objs.size + 1) (defScope st).names []).lookup y.1).isSome = true) := by
    rintro ⟨n, v⟩ hy
    rcases Sc.par n (List.of_mem_zip hy).1 with q | q
    · left
      exact q
    · right
      exact ⟨q, PySem.W.cellsFrom_some _ _ _ (.inl q)⟩
  refine codeAny_call_function hr.depth (KX _ _ lk) rfl Sc.co Sc.gen rfl (PySem.W.codeRec_of KX hcd) (hb _ _ _ _ ?_)
  refine wpAny_newFunctionEnv_cells Sc.kind hkd fun env he s1 hx => ?_
  subst he
  refine ⟨lim.keeps hx.toInCall.keep, codeAny_func ?_⟩
  have I := inv_start (CX := CX0) (E := E0) Sc hr.hd e0 hl r hx
  have G0 := body A outer s H hgd (hr.deeper _) rs M' Kk hS
  have satS : SatS (here F' H M') F' (bodyD Kk) { nx := fun _ H' => Q .non H', rt := Q } := by
    refine ⟨?_, sat, fun _ _ _ _ _ q => False.elim q, fun _ _ _ _ _ q => False.elim q⟩
    intro ρ M2 σ F2 H2 q W2 s2 _
    exact sat _ M2 .non F2 H2 q W2 s2 .non
  have ran := G0 _ F' H (L2.start N vs) _ W (paired_start hv) satS [] s1 (I.wish _)
  have fin : ∀ {s' : Shared} {σ' : L2.St} {H' : Hp} {v : V} {u : Value}, Inv (bodyX P w K mg base N qual st f (.ref c) A outer s H) [] σ' H' s' → RelV v u → Q v H' → CE outer P w H s Q u s' := by
    intro s' σ' H' v u J rv q
    exact ⟨v, H', J.os, J.bare, J.base, J.hok, rv, q⟩
  refine wpAny_mono ran (fun fl s' hs => ?_) fun e s' hs => False.elim hs
  match fl, hs with
  | .ret u, hs =>
    obtain ⟨v, σ', H', J, rv, q⟩ := hs
    exact fin J rv q
  | .next, hs =>
    obtain ⟨σ', H', J, q⟩ := hs
    exact fin (v := V.non) (u := Value.none) J rfl q
  | .brk, hs =>
    obtain ⟨_, _, _, q⟩ := hs
    exact False.elim q
  | .cont, hs =>
    obtain ⟨_, _, _, q⟩ := hs
    exact False.elim q
end
end G

/-! ### what the written part says of an exception class -/
namespace G
open PySem PySem.Spec PyProof.Rows L2
theorem excc_mk {K : PySem.W.Frag} {C : Addr} (g1 : PySem.W.findIn K (.ref C) "__getattribute__" = some (some (.builtin "BaseException.__getattribute__"))) (g2 : PySem.W.findIn K (.ref C) "__getattr__" = some none) (g3 : PySem.W.subIn K (.ref C) (.type "BaseException") = some true) (g4 : PySem.W.hasDictIn K C = true)
    (g5 : PySem.W.findIn K (.ref C) "__class__" = some (some (.builtin "object.__class__"))) (g6 : PySem.W.specialIn K (.builtin "object.__class__") "__get__" = some (some (.builtin "getset_descriptor.__get__"))) (g7 : PySem.W.takesIn K (.builtin "object.__class__") = some true) (g8 : PySem.W.mroIn K C (.type "object") = some true) : ExcC K C := ⟨g1, g2, g3, g4, g5, g6, g7, g8⟩
theorem xcls_mk {prog : Program} {K : PySem.W.Frag} {mg : Str → Option Value} {h : Heap} {x field : Str} {C : Addr} {B newId initId : String} {bmB : List Value} (X : K.In h) (G : h.Ns mainGlobals mg)
    (EB : ExcBaseFacts B newId initId bmB) (SF : StoreFacts B bmB "object.__setattr__" "object") (KX : PySem.W.KxsFacts B initId) (hBm : bmB.contains (.type B) = true)
    (e1 : PySem.W.nsIn K mainGlobals x = some (some (.ref C))) (e2 : PySem.W.keepIn K (.ref C) = true) (e3 : PySem.W.nsIn K mainGlobals "super" = some none) (e4 : PySem.W.subIn K (.ref C) (.type "BaseException") = some true) (e5 : PySem.W.typeIn K (.ref C) = some (.type "type"))
    (e6 : PySem.W.excInitIn K C bmB newId = true) (e7 : PySem.W.excOver K C bmB = true) {cd : ClassData} (e8 : PySem.W.clsIn K C = some cd) (e9 : cd.mro = .ref C :: bmB) (e10 : PySem.W.subIn K (.ref C) (.type B) = some true) (e11 : PySem.W.alongIn K "__init__" bmB = some (some (.builtin initId)))
    (e12 : PySem.W.findIn K (.ref C) "__setattr__" = some (some (.builtin "object.__setattr__"))) (e13 : PySem.W.takerIn K C field = some none) (e14 : PySem.W.hasDictIn K C = true) (e15 : PySem.W.nsIn K cStatics "thirdparty.any" = some none) (e16 : (prog.main.scope.names.lookup ("super" : Str)).isSome = false)
    {fI cc cda : Addr} {oc : Value} {od : Option Addr} {doc pm dV kV : Value} {an : Option Addr} {ct ccl : Value} {osl : Array (Option Value)} {cld : Option Addr} {csl : Array (Option Value)} {qual par : Str} {params : Arguments} {sc : Scope} {m : Str} {j : Nat} {p0 p1 p2 p3 p4 p5 q1 q2 q3 q4 : Pos} {ar : Arg}
    {cl3 : Value} {cdd : Option Addr} {ccs : Array (Option Value)} {vs : Array Value} {file : Str} {tf : Tok}
    (i1 : PySem.W.findIn K (.ref C) "__init__" = some (some (.ref fI))) (i2 : PySem.W.typeIn K (.ref fI) = some (.type "function"))
    (i3 : K.lookup fI = some ⟨oc, od, .func (PySem.W.ksFn "__init__" qual params [.Expr (.Call (.Attribute (.Call (.Name "super" p0) [] [] p1) "__init__" p2) [.Constant (.str m) j p3] [] p4) p5, .Assign [.Attribute (.Name "self" q1) field q2] (.Name par q3) q4] sc dV kV doc pm an (.ref cda) ct cc), osl⟩)
    (i4 : PySem.W.codeIn K (.ref cda) qual = true) (i5 : K.lookup cc = some ⟨ccl, cld, .cell (some (.ref C)), csl⟩) (i6 : K.lookup cda = some ⟨cl3, cdd, .fields vs, ccs⟩) (i7 : vs[2]? = some (.str file tf)) (i8 : (prog.main.file == file) = true)
    (i9 : (params.posonlyargs ++ params.args).head? = some ar) (i10 : ar.arg = "self")
    (i11 : ∀ (s : Shared) (a v : Value), BindsTo s (PySem.W.ksFn "__init__" qual params [.Expr (.Call (.Attribute (.Call (.Name "super" p0) [] [] p1) "__init__" p2) [.Constant (.str m) j p3] [] p4) p5, .Assign [.Attribute (.Name "self" q1) field q2] (.Name par q3) q4] sc dV kV doc pm an (.ref cda) ct cc) ⟨[a, v], []⟩ [("self", a), (par, v)])
    (i12 : sc.kind = .function) (i13 : sc.isCoroutine = false) (i14 : sc.isGenerator = false) (i15 : ∀ y ∈ sc.names, y.2 ≠ .cell) (i16 : sc.names.lookup ("self" : Str) = some .local) (i17 : sc.names.lookup par = some .local) (i18 : sc.names.lookup ("super" : Str) = some .globalImplicit) (i19 : sc.names.lookup ("__class__" : Str) = some .free) (i20 : ("self" : Str) ≠ par) (i21 : (par == ("__debug__" : Str)) = false) (i22 : (p2.endLine == p4.line) = true)
    (g1 : PySem.W.findIn K (.ref C) "__getattribute__" = some (some (.builtin "BaseException.__getattribute__"))) (g2 : PySem.W.findIn K (.ref C) "__getattr__" = some none) (g5 : PySem.W.findIn K (.ref C) "__class__" = some (some (.builtin "object.__class__"))) (g6 : PySem.W.specialIn K (.builtin "object.__class__") "__get__" = some (some (.builtin "getset_descriptor.__get__"))) (g7 : PySem.W.takesIn K (.builtin "object.__class__") = some true) (g8 : PySem.W.mroIn K C (.type "object") = some true)
    (nf : PySem.W.findIn K (.ref C) field = some none) : XCls prog K mg x field C where
  iv := ⟨PySem.W.mg_of X G e1, e2, PySem.W.mg_none_of X G e3, e4, e5, ⟨B, newId, initId, bmB, EB, SF, KX, e6, e7, ⟨cd, e8, e9, hBm, e10⟩, e11⟩, e12, e13, e14, e15, e16,
    ⟨fI, cc, cda, oc, od, doc, pm, dV, kV, an, ct, ccl, osl, cld, csl, qual, par, params, sc, m, j, p0, p1, p2, p3, p4, p5, q1, q2, q3, q4, ar, cl3, cdd, ccs, vs, file, tf, i1, i2, i3, i4, i5, i6, i7, i8, i9, i10, i11, i12, i13, i14, i15, i16, i17, i18, i19, i20, i21, i22⟩⟩
  ec := ⟨g1, g2, e4, e14, g5, g6, g7, g8⟩
  cl := by rw [e8]; rfl
  nf := nf
end G

namespace G
open PySem PySem.Spec PyProof.Rows L2
/-! ### anything that is data by MD, looked at as if it were frozen -/
/-- a slot, as it is or as the data that it is -/
inductive Thw (M : Mem) : SD → SD → Prop
  | kp {r : SD} : Thw M r r
  | md {r : SD} {d : PyData} : r.isV = true → MD M r d → Thw M r (.pu d)
theorem thw_run {B : Bs} {F H : Hp} {M : Mem} (W : Wd B F H M) : ∀ {σ : L2.St} {ρ ρ' : List SD}, Paired (SOk F) σ ρ → Paired (Thw M) ρ ρ' → Paired (SOk H) σ ρ'
  | _, _, _, .nil, .nil => .nil
  | o :: _, r :: _, r' :: _, .cons h t, .cons p q => by
    refine .cons ?_ (thw_run W t q)
    cases p with
    | kp => exact h.mono W.fh
    | md hv hd =>
      obtain ⟨v, rfl, hv⟩ := h.isV hv
      exact hd.dt W hv
theorem wd_all (H : Hp) : Wd (here H H []) H H [] where
  fh := Same.refl H
  f0 := Same.refl H
  fnew := fun a o h => .inl (.inl h)
  keep := fun a o h _ => h
  dom := fun a h => h
  mem := fun p hp => absurd hp List.not_mem_nil
  nd := List.nodup_nil
  new := fun p hp => absurd hp List.not_mem_nil
section
variable {X : Cx} {ρ ρ' : List SD} {M : Mem} {Q : Kn} {QT : Bool → Mem → Prop} {c e : Expr}
theorem tthawL (hp : Paired (Thw M) ρ ρ') (h : GT X ρ' [] c fun b _ => QT b M) : GT X ρ M c QT := .mk fun B F H σ Q' W S s =>
  h.run (here H H []) H H σ Q' (wd_all H) (thw_run W S hp) fun b M' F' H' q W' s' => s b M F H' q (W.back W.fh s' W') (Same.refl F)
theorem gthawL (hp : Paired (Thw M) ρ ρ') (h : GE X ρ' [] e fun r _ => ∃ d, r = .pu d ∧ isScal d = true ∧ Q r M) : GE X ρ M e Q := .mk fun B F H σ Q' W S s =>
  h.run (here H H []) H H σ Q' (wd_all H) (thw_run W S hp) fun r M' v F' H' q W' s' vv => by
    obtain ⟨d, rfl, hs, q⟩ := q
    exact s _ M v F H' q (W.back W.fh s' W') (Same.refl F) (scal_dt vv hs)
end
end G

namespace G
open PySem PySem.Spec PyProof.Rows L2
/-! ### written data with names in it -/
def litE (en : List (Str × PyData)) : Nat → Expr → Option PyData
  | 0, _ => none
  | f + 1, e => match e with
    | .Constant (.int i) _ _ => some (.int i)
    | .Constant (.bool b) _ _ => some (.bool b)
    | .Constant .none _ _ => some .none
    | .Constant (.str x) _ _ => some (.str x)
    | .Name x _ => en.lookup x
    | .UnaryOp .USub a _ => match litE en f a with
      | some (.int i) => some (.int (-i))
      | _ => none
    | .BinOp a .Add b _ => match litE en f a, litE en f b with
      | some (.int i), some (.int j) => some (.int (i + j))
      | _, _ => none
    | .BinOp a .Sub b _ => match litE en f a, litE en f b with
      | some (.int i), some (.int j) => some (.int (i - j))
      | _, _ => none
    | .List es _ => match litL (litE en f) es with
      | some ds => if ds.length ≤ 1000 then some (.list ds) else none
      | none => none
    | .Tuple es _ _ => match litL (litE en f) es with
      | some ds => if ds.length ≤ 1000 then some (.tuple ds) else none
      | none => none
    | _ => none
theorem litE_plain {en : List (Str × PyData)} {f : Nat} {e : Expr} {d : PyData} (h : litE en f e = some d) : plainE e = true := by
  cases f with
  | zero => cases h
  | succ f => cases e <;> first | rfl | cases h
theorem glitE_all {X : Cx} {ρ : List SD} {g : Expr → Option PyData} (pl : ∀ e d, g e = some d → plainE e = true) (ih : ∀ (e : Expr) (d : PyData), g e = some d → ∀ (M : Mem) (Q : Kn), Q (.pu d) M → GE X ρ M e Q) : ∀ (es : List Expr) (ds : List PyData), litL g es = some ds → ∀ (M : Mem) (QA : List SD → Mem → Prop), QA (ds.map .pu) M → GA X ρ M es QA
  | [], ds, h, M, QA, q => by
    cases h
    exact anil q
  | e :: es, ds, h, M, QA, q => by
    unfold litL at h
    cases h1 : g e with
    | none =>
      rw [h1] at h
      cases h
    | some d =>
      cases h2 : litL g es with
      | none =>
        rw [h1, h2] at h
        cases h
      | some ds' =>
        rw [h1, h2] at h
        cases h
        exact acons (ih e d h1 M _ (glitE_all pl ih es ds' h2 M _ q)) (star_plain (pl e d h1) es X.env)
theorem lookup_mem {en : List (Str × PyData)} {x : Str} {d : PyData} (h : en.lookup x = some d) : (x, d) ∈ en := by
  induction en with
  | nil => cases h
  | cons a en ih =>
    obtain ⟨y, c⟩ := a
    rw [List.lookup_cons] at h
    split at h
    · next he =>
      cases h
      rw [eq_of_beq he]
      exact List.mem_cons_self
    · exact List.mem_cons_of_mem _ (ih h)
theorem glitEN {X : Cx} {ρ : List SD} {en : List (Str × PyData)} (hen : ∀ x d, (x, d) ∈ en → ∀ (p : Pos) (M : Mem) (Q : Kn), Q (.pu d) M → GE X ρ M (.Name x p) Q) : ∀ (f : Nat) (e : Expr) (d : PyData), litE en f e = some d → ∀ (M : Mem) (Q : Kn), Q (.pu d) M → GE X ρ M e Q
  | 0, e, d, h, M, Q, q => by cases h
  | f + 1, e, d, h, M, Q, q => by
    have ih := glitEN hen f
    have pl : ∀ e d, litE en f e = some d → plainE e = true := fun e d h => litE_plain h
    unfold litE at h
    split at h
    · cases h; exact gi q
    · cases h; exact gbl q
    · cases h; exact gnon q
    · cases h; exact gstr q
    · next x p => exact hen x d (lookup_mem h) p M Q q
    · next a p =>
      split at h
      · next i h1 => cases h; exact gneg (ih a _ h1 M _ ⟨i, rfl, q⟩)
      · cases h
    · next a b p =>
      split at h
      · next i j h1 h2 => cases h; exact gadd (ih a _ h1 M _ ⟨i, rfl, ih b _ h2 M _ ⟨j, rfl, q⟩⟩)
      · cases h
    · next a b p =>
      split at h
      · next i j h1 h2 => cases h; exact gsub (ih a _ h1 M _ ⟨i, rfl, ih b _ h2 M _ ⟨j, rfl, q⟩⟩)
      · cases h
    · next es p =>
      cases h2 : litL (litE en f) es with
      | none => rw [h2] at h; cases h
      | some ds =>
        rw [h2] at h
        dsimp only at h
        split at h
        · next hl =>
          cases h
          exact gz (glst (glitE_all pl ih es ds h2 M _ ⟨by rw [List.length_map]; omega, fun l => ⟨l, ds, M, rfl, rfl, q⟩⟩))
        · cases h
    · next es k p =>
      cases h2 : litL (litE en f) es with
      | none => rw [h2] at h; cases h
      | some ds =>
        rw [h2] at h
        dsimp only at h
        split at h
        · next hl =>
          cases h
          exact gtup (glitE_all pl ih es ds h2 M _ ⟨ds, rfl, by omega, q⟩)
        · cases h
    · cases h
theorem glitV {X : Cx} {ρ : List SD} {M : Mem} {Q : Kn} {e : Expr} (en : List (Str × PyData)) (d : PyData) (h : litE en 8 e = some d) (hen : ∀ x d, (x, d) ∈ en → ∀ (p : Pos) (M : Mem) (Q : Kn), Q (.pu d) M → GE X ρ M (.Name x p) Q) (q : Q (.pu d) M) : GE X ρ M e Q := glitEN hen 8 e d h M Q q
end G

/-! ### {} as data: made, frozen, shown by repr -/
namespace G
open PySem PySem.Spec PyProof.Rows L2
/-- what stands at sys.modules is followed, and stays -/
def smTok (o₀ : Obj) : SemM where
  φ := fun F H a => H a = some (.ext fun h => h.get? a = some o₀)
  mono := fun e k h => k _ h
  notup := fun h z => nomatch h.symm.trans z
  there := fun h => ⟨_, h⟩
abbrev smE (o₀ : Obj) : Addr × MO := (sysModules, .sm (smTok o₀))
theorem sm_at {B : Bs} {F H : Hp} {M : Mem} {o₀ : Obj} (W : Wd B F H M) (h : smE o₀ ∈ M) : H sysModules = some (.ext fun h => h.get? sysModules = some o₀) := (W.mem _ h).2
section
variable {X : Cx} {pins : List (Addr × Obj)} {σ : L2.St} {H : Hp} {s : Shared}
mutual
/-- data in the machine's heap; none of its lists and dicts is sys.modules -/
theorem Dt.reads {o₀ : Obj} (I : Inv X pins σ H s) (hs : H sysModules = some (.ext fun h => h.get? sysModules = some o₀)) : ∀ {v : V} {d : PyData}, Dt H v d → ∀ {u : Value}, RelV v u → ∃ as, Reads s.heap u d as ∧ sysModules ∉ as
  | _, _, .non, u, r => by
    obtain rfl : u = Value.none := r
    exact ⟨[], .none, List.not_mem_nil⟩
  | _, _, .bl b, u, r => by
    obtain rfl : u = Value.bool b := r
    exact ⟨[], .bool b, List.not_mem_nil⟩
  | _, _, .int i, u, r => by
    obtain ⟨t, rfl⟩ := r
    exact ⟨[], .int i t, List.not_mem_nil⟩
  | _, _, .str x, u, r => by
    obtain ⟨t, rfl⟩ := r
    exact ⟨[], .str x t, List.not_mem_nil⟩
  | _, _, .lst (a := a) h k, u, r => by
    obtain rfl : u = Value.ref a := r
    have e : ObjOk X.prog X.w H s.heap a (.lst _) := I.hok a _ h
    obtain ⟨_, its, n, rv, ho⟩ := e
    obtain ⟨as, ra, na⟩ := DtA.reads I hs k rv
    refine ⟨a :: as, .list ho rfl rfl ra, fun hm => ?_⟩
    rcases List.mem_cons.mp hm with z | z
    · rw [z, h] at hs
      cases hs
    · exact na z
  | _, _, .tup (a := a) h k, u, r => by
    obtain rfl : u = Value.ref a := r
    have e : ObjOk X.prog X.w H s.heap a (.tup _) := I.hok a _ h
    obtain ⟨_, its, rv, o, ho, hc, n, hd⟩ := e
    obtain ⟨as, ra, na⟩ := DtA.reads I hs k rv
    exact ⟨as, .tuple ho hc hd ra, na⟩
  | _, _, .dic (a := a) h, u, r => by
    obtain rfl : u = Value.ref a := r
    have e : ObjOk X.prog X.w H s.heap a (.dT []) := I.hok a _ h
    obtain ⟨_, hsm, xs, rel, o, es, ep, ho, hx, hd, hes, _⟩ := e
    cases rel
    have e0 : es = #[] := Array.toList_inj.mp hes
    subst e0
    refine ⟨a :: [] ++ [], .dict (kvs := []) ho hx.1 hd .nil .nil, fun hm => ?_⟩
    rcases List.mem_cons.mp hm with z | z
    · rw [z] at hsm
      simp at hsm
    · exact absurd z List.not_mem_nil
theorem DtA.reads {o₀ : Obj} (I : Inv X pins σ H s) (hs : H sysModules = some (.ext fun h => h.get? sysModules = some o₀)) : ∀ {vs : List V} {ds : List PyData}, DtA H vs ds → ∀ {us : List Value}, Vals vs us → ∃ as, ReadsAll s.heap us ds as ∧ sysModules ∉ as
  | _, _, .nil, us, r => by
    cases r
    exact ⟨[], .nil, List.not_mem_nil⟩
  | _, _, .cons h k, us, r => by
    cases r with
    | cons r1 r2 =>
      obtain ⟨as, ra, na⟩ := Dt.reads I hs h r1
      obtain ⟨bs, rb, nb⟩ := DtA.reads I hs k r2
      exact ⟨as ++ bs, .cons ra rb, fun hm => (List.mem_append.mp hm).elim na nb⟩
end
end
/-- what repr may be asked of, dicts among them -/
structure ShowZ (d : PyData) : Prop where
  sh : d.showable = true
  dp : d.depth ≤ 20
  sz : d.shown.length ≤ sizeLine
section
variable {X : Cx} {ρ : List SD} {M : Mem} {Q : Kn} {Ex : XKn} {pos : Pos} {a b e : Expr} {es : List Expr}
def rReprZ : List V → Hp → VK → Prop := fun xs H Q => ∃ v d, xs = [v] ∧ Dt H v d ∧ (∃ o₀, H sysModules = some (.ext fun h => h.get? sysModules = some o₀)) ∧ ShowZ d ∧ Q (.str d.shown) H
theorem cr_reprZ (hgd : X.A.guards = some []) (hu : X.A.units + 64 < cLine) : CallR X (.builtin "repr") rReprZ := by
  intro pins s σ H xs us Q I r h
  obtain ⟨v, d, rfl, hd, ⟨o₀, hs⟩, shz, q⟩ := h
  obtain ⟨h1, h3, h4⟩ := shz
  obtain ⟨u, rfl, ru⟩ := vals1 r
  obtain ⟨as, rd, na⟩ := hd.reads I hs ru
  have fin : ∀ h' t tk, (∀ b o, s.heap.get? b = some o → h'.get? b = some o) → EP X pins σ Q (.str d.shown t) { s with heap := h', toks := tk } := fun h' t tk k => ⟨.str d.shown, H, I.kept k, ⟨t, rfl⟩, q⟩
  cases hd with
  | non =>
    obtain rfl : u = .none := ru
    exact PySem.P.repr_of_none (fin s.heap _ _ fun _ _ e => e)
  | bl b =>
    obtain rfl : u = .bool b := ru
    exact PySem.P.repr_of_bool (b := b) (fin s.heap _ _ fun _ _ e => e)
  | int i =>
    obtain ⟨t, rfl⟩ := ru
    exact PySem.P.repr_of_int (by simpa [PyData.showable] using h1) (fin s.heap _ _ fun _ _ e => e)
  | str i =>
    obtain ⟨t, rfl⟩ := ru
    exact PySem.P.repr_of_str (fin s.heap _ _ fun _ _ e => e) h4
  | lst _ _ =>
    obtain rfl : u = .ref _ := ru
    exact repr_of_reads' rd h1 (fun _ => na) hgd (by omega) (fun _ _ e => e) (fun h' u tk k => fin h' u tk k) h4
  | tup _ _ =>
    obtain rfl : u = .ref _ := ru
    exact repr_of_reads' rd h1 (fun _ => na) hgd (by omega) (fun _ _ e => e) (fun h' u tk k => fin h' u tk k) h4
  | dic _ =>
    obtain rfl : u = .ref _ := ru
    exact repr_of_reads' rd h1 (fun _ => na) hgd (by omega) (fun _ _ e => e) (fun h' u tk k => fin h' u tk k) h4
theorem greprZ {p : Pos} {o₀ : Obj} (hgd : X.A.guards = some []) (hu : X.A.units + 64 < cLine) (hm : X.mg "repr" = none) (h : GE X ρ M e fun x M1 => ∃ d, MD M1 x d ∧ smE o₀ ∈ M1 ∧ ShowZ d ∧ Q (.pu (.str d.shown)) M1) (hg : Gl X "repr" := by rfl) (he : starEach [e] X.env = [(false, eval e X.env)] := by rfl) : GE X ρ M (.Call (.Name "repr" p) [e] [] pos) Q :=
  gcb (cr_reprZ hgd hu) hm PyProof.Rows.boot_repr (acons (h.mono fun x M1 ⟨d, md, hs, sh, q⟩ => anil fun B F H vs Q' W hvs s => by
    obtain ⟨v, rfl, hv⟩ := p1 hvs
    have := s _ M1 _ F H q W (Same.refl F) (Dt.str d.shown)
    exact ⟨v, d, rfl, md.dt W hv, ⟨o₀, sm_at W hs⟩, sh, this⟩) he) hg (he := he)
/-- {} frozen at once -/
theorem gdic0 (q : Q (.pu (.dict [])) M) : GE X ρ M (.Dict [] [] pos) Q := .mk fun B F H σ Q' W S s => wE_of pe_dnewT fun p hp => by
  obtain ⟨W2, s2⟩ := W.froz (o := .dT []) hp
  exact s _ _ _ _ _ q W2 s2 (Dt.dic upd_same)
end
/-! written data, {} in it -/
def litZ : Nat → Expr → Option PyData
  | 0, _ => none
  | f + 1, e => match e with
    | .Constant (.int i) _ _ => some (.int i)
    | .Constant (.bool b) _ _ => some (.bool b)
    | .Constant .none _ _ => some .none
    | .Constant (.str x) _ _ => some (.str x)
    | .UnaryOp .USub (.Constant (.int i) _ _) _ => some (.int (-i))
    | .Dict [] [] _ => some (.dict [])
    | .List es _ => match litL (litZ f) es with
      | some ds => if ds.length ≤ 1000 then some (.list ds) else none
      | none => none
    | .Tuple es _ _ => match litL (litZ f) es with
      | some ds => if ds.length ≤ 1000 then some (.tuple ds) else none
      | none => none
    | _ => none
theorem litZ_plain {f : Nat} {e : Expr} {d : PyData} (h : litZ f e = some d) : plainE e = true := by
  cases f with
  | zero => cases h
  | succ f => cases e <;> first | rfl | cases h
theorem glitZ_all {X : Cx} {ρ : List SD} {f : Nat} (ih : ∀ (e : Expr) (d : PyData), litZ f e = some d → ∀ (M : Mem) (Q : Kn), Q (.pu d) M → GE X ρ M e Q) : ∀ (es : List Expr) (ds : List PyData), litL (litZ f) es = some ds → ∀ (M : Mem) (QA : List SD → Mem → Prop), QA (ds.map .pu) M → GA X ρ M es QA
  | [], ds, h, M, QA, q => by
    cases h
    exact anil q
  | e :: es, ds, h, M, QA, q => by
    unfold litL at h
    cases h1 : litZ f e with
    | none =>
      rw [h1] at h
      cases h
    | some d =>
      cases h2 : litL (litZ f) es with
      | none =>
        rw [h1, h2] at h
        cases h
      | some ds' =>
        rw [h1, h2] at h
        cases h
        exact acons (ih e d h1 M _ (glitZ_all ih es ds' h2 M _ q)) (star_plain (litZ_plain h1) es X.env)
theorem glitZN {X : Cx} {ρ : List SD} : ∀ (f : Nat) (e : Expr) (d : PyData), litZ f e = some d → ∀ (M : Mem) (Q : Kn), Q (.pu d) M → GE X ρ M e Q
  | 0, e, d, h, M, Q, q => by cases h
  | f + 1, e, d, h, M, Q, q => by
    have ih := glitZN (X := X) (ρ := ρ) f
    unfold litZ at h
    split at h
    · cases h; exact gi q
    · cases h; exact gbl q
    · cases h; exact gnon q
    · cases h; exact gstr q
    · cases h; exact gneg (gi ⟨_, rfl, q⟩)
    · cases h; exact gdic0 q
    · next es p =>
      cases h2 : litL (litZ f) es with
      | none => rw [h2] at h; cases h
      | some ds =>
        rw [h2] at h
        dsimp only at h
        split at h
        · next hl =>
          cases h
          exact gz (glst (glitZ_all ih es ds h2 M _ ⟨by rw [List.length_map]; omega, fun l => ⟨l, ds, M, rfl, rfl, q⟩⟩))
        · cases h
    · next es k p =>
      cases h2 : litL (litZ f) es with
      | none => rw [h2] at h; cases h
      | some ds =>
        rw [h2] at h
        dsimp only at h
        split at h
        · next hl =>
          cases h
          exact gtup (glitZ_all ih es ds h2 M _ ⟨ds, rfl, by omega, q⟩)
        · cases h
    · cases h
/-- written data as a value -/
theorem glitZ {X : Cx} {ρ : List SD} {M : Mem} {Q : Kn} {e : Expr} (d : PyData) (h : litZ 6 e = some d) (q : Q (.pu d) M) : GE X ρ M e Q := glitZN 6 e d h M Q q
end G

/-! ### the end of a law whose defs make lambdas and show {} -/
namespace G
open PySem PySem.Spec PyProof.Rows L2 LamX
def LawSS (K : PySem.W.Frag) (n : Nat) (tb : List (Addr × Str)) (o₀ : Obj) : GSpec := fun rs M Kk => ∃ a ns Ms, rs = [.rf (.ref a)] ∧ M = tabs tb ++ smE o₀ :: Ms ∧ Scr K Ms a ns ∧ ns.length ≤ n ∧ (∀ z ∈ ns, Builtin.Int.intBits z ≤ 1048576) ∧ (Ms = [] ∨ ∃ mo, Ms = [(a, mo)]) ∧ ∀ M', smE o₀ ∈ M' → Kk (.pu (.bool true)) M'
abbrev smO (o₀ : Obj) : HO := .ext fun h => h.get? sysModules = some o₀
section
variable {P : Program} {w : World} {K : PySem.W.Frag} {mg mb : Str → Option Value} {k n : Nat} {fa a : Addr} {fd : FuncData} {x : Str} {t : Shared} {vs : List Value} {ns : List Int} {cs : List (Addr × Addr × Str)}
theorem ext_keep {P : Program} {w : World} {H : Hp} {h : Heap} {o₀ : Obj} (e : h.get? sysModules = some o₀) : ObjOk P w H h sysModules (smO o₀) :=
  ⟨e, ⟨_, e⟩, fun h1 h2 q k => k _ q⟩
theorem head_atS {H : Hp} {S : GSpec} {o₀ : Obj} (KX : K.In t.heap) (nm : t.heap.Ns mainGlobals mg) (nb : t.heap.Ns builtinsNs mb) (hbb : ∀ x : Str, x ≠ "__name__" → mb x = bootBuiltins x) (lim : t.heap.NoLimit) (gn : t.gens = #[])
    (hbm : ∃ bm ob, mg "__builtins__" = some (.ref bm) ∧ bm ≠ builtinsNs ∧ t.heap.get? bm = some ob ∧ ob.cls = .type "module" ∧ ob.dict = some builtinsNs ∧ ob.data = .plain) (hsd : ∃ es ep, t.heap.get? sysModules = some o₀ ∧ o₀.data = .dict es ep)
    (ha : t.heap.get? a = some (scO vs)) (hr : Room k callerA) (hT : ∀ p ∈ cs, t.heap.get? p.2.1 = some (PySem.W.tabObj #[])) (hC : ∀ p ∈ cs, PySem.W.CodeHd t.heap p.1 p.2.1)
    (FF : ∀ base : Heap, K.In base → base.Ns mainGlobals mg → (∀ p ∈ cs, TabB base mg p.1 p.2.1) → FnG P w K mg base k fa fd [x] S) (bd : ∀ (s : Shared) (u : Value), BindsTo s fd ⟨[u], []⟩ [(x, u)])
    (only : ∀ b, H b = none ∨ ((∃ p ∈ cs, p.2.1 = b) ∧ H b = some (.tbl #[])) ∨ (b = a ∧ ∃ o xs, H b = some (.frz o (.lst xs))) ∨ (b = sysModules ∧ H b = some (smO o₀))) (ok : HOk P w H t.heap) (nk : ∀ b, H b ≠ none → K.lookup b = none) (hall : ∀ p ∈ cs, H p.2.1 = some (.tbl #[])) (sp : spG S [.ref a] H (fun v H' => v = .bl true ∧ H' sysModules = some (smO o₀)) E0) :
    codeAny (model P w) callerA (.call (.ref fa) ⟨[.ref a], []⟩) (EndsWell t) t := by
  obtain ⟨des, dep, hs1, hs2⟩ := hsd
  have off : ∀ {b : Addr} {o : Obj}, t.heap.get? b = some o → (b = sysModules → ∀ es ep, o.data ≠ .dict es ep) → (∀ vs n, o.data ≠ .seq vs n) → o.data ≠ .fields #[] → H b = none := by
    intro b o e d0 d1 d2
    rcases only b with z | ⟨⟨p, hp, z⟩, _⟩ | ⟨z, _⟩ | ⟨z, _⟩
    · exact z
    · have := hT p hp
      rw [z, e] at this
      cases this
      exact absurd rfl d2
    · rw [z, ha] at e
      cases e
      exact absurd rfl (d1 _ _)
    · subst z
      rw [hs1] at e
      cases e
      exact absurd hs2 (d0 rfl _ _)
  have free : ∀ {b : Addr} {o : Obj} {es : Array DictEntry} {ep : Nat}, b ≠ sysModules → t.heap.get? b = some o → o.data = .dict es ep → H b = none := fun nb e d => off e (fun z => absurd z nb) (fun _ _ z => by rw [d] at z; cases z) (fun z => by rw [d] at z; cases z)
  have hid : ∀ {b : Addr} {m : Str → Option Value}, b ≠ sysModules → t.heap.Ns b m → (hidT t.heap H).Ns b m := by
    rintro b m nb ⟨o, es, ep, e, d, r⟩
    exact ⟨o, es, ep, hidT_get e (free nb e d), d, r⟩
  have kin : K.In (hidT t.heap H) := by
    intro b o e
    refine hidT_get (KX b o e) (Classical.byContradiction fun hn => ?_)
    rw [nk b hn] at e
    cases e
  have md : Mod K mg (hidT t.heap H) := by
    obtain ⟨mc, l1, l2⟩ := lim
    exact ⟨kin, hid (by decide) nm, ⟨mb, hid (by decide) nb, hbb⟩, ⟨mc, hid (by decide) l1, l2⟩⟩
  have e0 : Env0 P w K mg (hidT t.heap H) callerA [] t H := ⟨rfl, md, fun b o e => of_hidT e, Nat.le_of_eq (hidT_size _ _), trivial, fun b hb => (List.not_mem_nil hb).elim, ok, .of_eq gn⟩
  have TB : ∀ p ∈ cs, TabB (hidT t.heap H) mg p.1 p.2.1 := by
    intro p hp
    have hTp := hT p hp
    refine ⟨?_, ?_, fun z => ?_⟩
    · obtain ⟨o, us, file, tf, flags, tg, inF, text, tt, e1, r1, r2, r3, r⟩ := hC p hp
      refine ⟨o, us, file, tf, flags, tg, inF, text, tt, hidT_get e1 (off e1 (fun _ _ _ z => by rw [r2] at z; cases z) (fun _ _ z => by rw [r2] at z; cases z) fun z => ?_), r1, r2, r3, r⟩
      rw [r2] at z
      cases z
      simp at r3
    · obtain ⟨bm, ob, b1, b2, b3, b4, b5, b6⟩ := hbm
      refine ⟨bm, ob, b1, b2, fun z => ?_, fun z => ?_, hidT_get b3 (off b3 (fun _ _ _ z => by rw [b6] at z; cases z) (fun _ _ z => by rw [b6] at z; cases z) fun z => by rw [b6] at z; cases z), b4, b5, b6⟩
      · obtain ⟨o, es, ep, e, d, _⟩ := nm
        rw [z, e] at b3
        cases b3
        rw [d] at b6
        cases b6
      · rw [z, hTp] at b3
        cases b3
        cases b6
    · obtain ⟨o, es, ep, e, d, _⟩ := nm
      rw [z, hTp] at e
      cases e
      cases d
  have ran := (FF _ kin (hid (by decide) nm) TB).run callerA [] t H ⟨[.ref a], []⟩ [.ref a] [.ref a] _ rfl hr e0 (bd t (.ref a)) (.cons rfl .nil) sp
  refine codeAny_mono ran fun r t' h => ?_
  match r, h with
  | .error _, h => exact False.elim h
  | .ok .next, h => exact False.elim h
  | .ok .brk, h => exact False.elim h
  | .ok .cont, h => exact False.elim h
  | .ok (.ret u), h =>
    obtain ⟨v, H', os, bare, un, ok', rv, q⟩ := h
    obtain ⟨q, qs⟩ : v = .bl true ∧ H' sysModules = some (smO o₀) := q
    subst q
    have rv : u = Value.bool true := rv
    subst rv
    have key : ∀ b o, (¬ ∃ p ∈ cs, p.2.1 = b) → t.heap.get? b = some o → t'.heap.get? b = some o := by
      intro b o hn e
      rcases only b with z | ⟨z, _⟩ | ⟨_, ob, xs, z⟩ | ⟨z0, z⟩
      · exact un.keep b o e z (fun y => (List.not_mem_nil y).elim) (by simp)
      · exact absurd z hn
      · have b1 := (ok b _ z).1
        have b2 := (ok' b _ (un.frzs b ob _ z)).1
        rw [e] at b1
        cases b1
        exact b2
      · subst z0
        have b1 : t.heap.get? sysModules = some o₀ := (ok _ _ z).1
        have b2 : t'.heap.get? sysModules = some o₀ := (ok' _ _ qs).1
        rw [e] at b1
        cases b1
        exact b2
    have grown : ∀ p ∈ cs, ∃ more, t'.heap.get? p.2.1 = some (PySem.W.tabObj more) := by
      intro p hp
      obtain ⟨more, z⟩ := un.tbls p.2.1 #[] (hall p hp)
      exact ⟨#[] ++ more, ok' p.2.1 _ z⟩
    refine ⟨rfl, ⟨fun b o e => ?_, fun b o e => ?_⟩, os, bare⟩
    · by_cases hb : ∃ p ∈ cs, p.2.1 = b
      · obtain ⟨p, hp, rfl⟩ := hb
        obtain ⟨more, hm⟩ := grown p hp
        have z := hT p hp
        rw [e] at z
        cases z
        exact .inr (.inl ⟨Heap.TableAt.isCodeTable (PySem.W.CodeHd.tab (hC p hp) (hT p hp)), rfl, #[], more, rfl, by rw [Array.empty_append]; exact hm⟩)
      · exact .inl (key b o hb e)
    · by_cases hb : ∃ p ∈ cs, p.2.1 = b
      · obtain ⟨p, hp, rfl⟩ := hb
        obtain ⟨more, hm⟩ := grown p hp
        exact ⟨_, hm⟩
      · exact ⟨o, key b o hb e⟩
/-- a small heap, written as a list -/
def hpOf (L : List (Addr × HO)) : Hp := fun b => (L.find? fun p => p.1 == b).map (·.2)
theorem hp_some {L : List (Addr × HO)} {b : Addr} {o : HO} (h : hpOf L b = some o) : (b, o) ∈ L := by
  unfold hpOf at h
  obtain ⟨p, hp, rfl⟩ := Option.map_eq_some_iff.mp h
  have e : p.1 = b := by simpa using List.find?_some hp
  rw [← e]
  exact List.mem_of_find?_eq_some hp
theorem hp_mem : ∀ {L : List (Addr × HO)} {p : Addr × HO}, (L.map (·.1)).Nodup → p ∈ L → hpOf L p.1 = some p.2
  | [], p, _, h => absurd h List.not_mem_nil
  | q :: L, p, nd, h => by
    rw [List.map_cons, List.nodup_cons] at nd
    unfold hpOf
    rcases List.mem_cons.mp h with e | e
    · subst e
      rw [List.find?_cons_of_pos (by simp)]
      rfl
    · have ne : q.1 ≠ p.1 := fun z => nd.1 (by rw [z]; exact List.mem_map_of_mem e)
      rw [List.find?_cons_of_neg (by simpa using ne)]
      exact hp_mem nd.2 e
theorem law_headS {o₀ : Obj} (KX : K.In t.heap) (nm : t.heap.Ns mainGlobals mg) (nb : t.heap.Ns builtinsNs mb) (hbb : ∀ x : Str, x ≠ "__name__" → mb x = bootBuiltins x) (lim : t.heap.NoLimit) (gn : t.gens = #[])
    (hbm : ∃ bm ob, mg "__builtins__" = some (.ref bm) ∧ bm ≠ builtinsNs ∧ t.heap.get? bm = some ob ∧ ob.cls = .type "module" ∧ ob.dict = some builtinsNs ∧ ob.data = .plain)
    (ha : t.heap.get? a = some (scO vs)) (hi : IntsAre vs ns) (hl : ns.length ≤ n) (hn : n ≤ sizeLine) (hbits : ∀ z ∈ ns, Builtin.Int.intBits z ≤ 1048576) (hr : Room k callerA)
    (hT : ∀ p ∈ cs, t.heap.get? p.2.1 = some (PySem.W.tabObj #[])) (hC : ∀ p ∈ cs, PySem.W.CodeHd t.heap p.1 p.2.1) (hK : ∀ p ∈ cs, K.lookup p.2.1 = none) (hsd : ∃ es ep, t.heap.get? sysModules = some o₀ ∧ o₀.data = .dict es ep) (hsk : K.lookup sysModules = none) (hnd : (cs.map (·.2.1)).Nodup)
    (FF : ∀ base : Heap, K.In base → base.Ns mainGlobals mg → (∀ p ∈ cs, TabB base mg p.1 p.2.1) → FnG P w K mg base k fa fd [x] (LawSS K n (tbOf cs) o₀)) (bd : ∀ (s : Shared) (u : Value), BindsTo s fd ⟨[u], []⟩ [(x, u)]) :
    codeAny (model P w) callerA (.call (.ref fa) ⟨[.ref a], []⟩) (EndsWell t) t := by
  have rv := vals_ints hi
  have hl2 : ns.length ≤ sizeLine := Nat.le_trans hl hn
  obtain ⟨des, dep, hs1, hs2⟩ := id hsd
  have nota : ∀ p ∈ cs, p.2.1 ≠ a := fun p hp z => by
    have := hT p hp
    rw [z, ha] at this
    cases this
  have nots : ∀ p ∈ cs, p.2.1 ≠ sysModules := fun p hp z => by
    have := hT p hp
    rw [z, hs1] at this
    cases this
    cases hs2
  have nsa : sysModules ≠ a := fun z => by
    rw [z, ha] at hs1
    cases hs1
    cases hs2
  have keys : (tabs (tbOf cs)).map (·.1) = cs.map (·.2.1) := by
    unfold tabs tbOf
    rw [List.map_map, List.map_map]
    rfl
  have tmem : ∀ p ∈ tabs (tbOf cs), ∃ c ∈ cs, p = (c.2.1, MO.sm (tabM c.2.2)) := fun p hp => by
    obtain ⟨q, hq, rfl⟩ := List.mem_map.mp hp
    obtain ⟨c, hc, rfl⟩ := List.mem_map.mp hq
    exact ⟨c, hc, rfl⟩
  obtain ⟨Ms, Ls, hMs, hsc, hLs, hkm⟩ : ∃ (Ms : Mem) (Ls : List (Addr × HO)), (Ms = [] ∨ ∃ mo, Ms = [(a, mo)]) ∧ Scr K Ms a ns ∧ (∀ p ∈ Ls, p.1 = a ∧ K.lookup a = none ∧ p.2 = .frz (scO vs) (.lst (ns.map V.int))) ∧ (∀ p ∈ Ms, p = (a, .frz (ns.map V.int)) ∧ Ls = [(a, .frz (scO vs) (.lst (ns.map V.int)))]) ∧ (Ls.map (·.1)).Nodup := by
    cases hk : K.lookup a with
    | some o =>
      have e := KX a o hk
      rw [ha] at e
      cases e
      exact ⟨[], [], .inl rfl, .kit ⟨_, vs.toArray, _, hk, rfl, rfl, rfl, by rw [List.size_toArray, hi.length]; exact hl2, by simpa using rv⟩, fun p hp => absurd hp List.not_mem_nil, fun p hp => absurd hp List.not_mem_nil, List.nodup_nil⟩
    | none =>
      refine ⟨[(a, .frz (ns.map V.int))], [(a, .frz (scO vs) (.lst (ns.map V.int)))], .inr ⟨_, rfl⟩, .own List.mem_cons_self, fun p hp => ?_, fun p hp => ?_, List.pairwise_singleton _ _⟩
      · rw [List.mem_singleton.mp hp]
        exact ⟨rfl, rfl, rfl⟩
      · rw [List.mem_singleton.mp hp]
        exact ⟨rfl, rfl⟩
  obtain ⟨hkm, hndL⟩ := hkm
  have hndA : (((sysModules, smO o₀) :: (cs.map fun p => (p.2.1, HO.tbl #[])) ++ Ls).map (·.1)).Nodup := by
    rw [List.map_append, List.map_cons, List.map_map]
    refine List.nodup_append.mpr ⟨List.nodup_cons.mpr ⟨fun hm => ?_, hnd⟩, hndL, fun b hb c hc e => ?_⟩
    · obtain ⟨p, hp, e⟩ := List.mem_map.mp hm
      exact nots p hp e
    · obtain ⟨q, hq, eq⟩ := List.mem_map.mp hc
      have ea := (hLs q hq).1
      rcases List.mem_cons.mp hb with z | z
      · have z : b = sysModules := z
        exact nsa (by rw [← z, e, ← eq, ea])
      · obtain ⟨p, hp, e2⟩ := List.mem_map.mp z
        exact nota p hp (by rw [show p.2.1 = b from e2, e, ← eq, ea])
  have sat : ∀ {B : Bs} {F : Hp}, Sat B F (fun r M' => r = .pu (.bool true) ∧ smE o₀ ∈ M') (fun v H' => v = V.bl true ∧ H' sysModules = some (smO o₀)) := by
    intro B F r M' v F' H' ⟨q, hm⟩ W s vv
    subst q
    have vv : Dt F' v (.bool true) := vv
    cases vv
    exact ⟨rfl, sm_at W hm⟩
  have on : ∀ p ∈ (sysModules, smO o₀) :: (cs.map fun p => (p.2.1, HO.tbl #[])) ++ Ls, hpOf ((sysModules, smO o₀) :: (cs.map fun p => (p.2.1, HO.tbl #[])) ++ Ls) p.1 = some p.2 := fun p hp => hp_mem hndA hp
  have whom : ∀ {b : Addr} {o : HO}, hpOf ((sysModules, smO o₀) :: (cs.map fun p => (p.2.1, HO.tbl #[])) ++ Ls) b = some o → (b = sysModules ∧ o = smO o₀) ∨ (∃ p ∈ cs, p.2.1 = b ∧ o = .tbl #[]) ∨ (b = a ∧ K.lookup a = none ∧ o = .frz (scO vs) (.lst (ns.map V.int))) := fun {b o} h => by
    rcases List.mem_append.mp (hp_some h) with z | z
    · rcases List.mem_cons.mp z with z | z
      · cases z
        exact .inl ⟨rfl, rfl⟩
      · obtain ⟨p, hp, e⟩ := List.mem_map.mp z
        cases e
        exact .inr (.inl ⟨p, hp, rfl, rfl⟩)
    · exact .inr (.inr (hLs _ z))
  generalize hpOf ((sysModules, smO o₀) :: (cs.map fun p => (p.2.1, HO.tbl #[])) ++ Ls) = H at on whom
  have tblH : ∀ p ∈ cs, H p.2.1 = some (.tbl #[]) := fun p hp => on (p.2.1, .tbl #[]) (List.mem_append_left _ (List.mem_cons_of_mem _ (List.mem_map.mpr ⟨p, hp, rfl⟩)))
  have smH : H sysModules = some (smO o₀) := on (sysModules, smO o₀) (List.mem_append_left _ List.mem_cons_self)
  refine head_atS (H := H) KX nm nb hbb lim gn hbm hsd ha hr hT hC FF bd (fun b => ?_) (fun b u z => ?_) (fun b z => ?_) tblH ?_
  · cases e : H b with
    | none => exact .inl rfl
    | some o =>
      rcases whom e with ⟨z1, z2⟩ | ⟨p, hp, z1, z2⟩ | ⟨z1, _, z2⟩
      · exact .inr (.inr (.inr ⟨z1, by rw [z2]⟩))
      · exact .inr (.inl ⟨⟨p, hp, z1⟩, by rw [z2]⟩)
      · exact .inr (.inr (.inl ⟨z1, _, _, by rw [z2]⟩))
  · rcases whom z with ⟨z1, z2⟩ | ⟨p, hp, z1, z2⟩ | ⟨z1, _, z2⟩
    · subst z1 z2
      exact ext_keep hs1
    · subst z1 z2
      exact hT p hp
    · subst z1 z2
      exact ⟨ha, by rw [List.length_map]; exact hl2, vs, _, rv, ha⟩
  · cases e : H b with
    | none => exact absurd e z
    | some o =>
      rcases whom e with ⟨z1, _⟩ | ⟨p, hp, z1, _⟩ | ⟨z1, z2, _⟩
      · rw [z1]
        exact hsk
      · rw [← z1]
        exact hK p hp
      · rw [z1]
        exact z2
  · refine ⟨fun _ => none, [.rf (.ref a)], tabs (tbOf cs) ++ smE o₀ :: Ms, fun r M' => r = .pu (.bool true) ∧ smE o₀ ∈ M', .cons rfl .nil, ?_, ⟨a, ns, Ms, rfl, rfl, hsc, hl, hbits, hMs, fun M' hm => ⟨rfl, hm⟩⟩, sat⟩
    refine ⟨fun b o e => (nomatch e), fun b o e => e, fun b o e => .inl (.inl e), fun b o e _ => e, fun b e => e, fun p hp => ?_, ?_, fun p hp => .inr (List.mem_map_of_mem hp)⟩
    · rcases List.mem_append.mp hp with q | q
      · obtain ⟨c, hc, rfl⟩ := tmem p q
        exact ⟨rfl, tabM_nil (tblH c hc)⟩
      · rcases List.mem_cons.mp q with q | q
        · rw [q]
          exact ⟨rfl, smH⟩
        · obtain ⟨e1, e2⟩ := hkm p q
          rw [e1]
          have hq := on (a, .frz (scO vs) (.lst (ns.map V.int))) (List.mem_append_right _ (by rw [e2]; exact List.mem_cons_self))
          exact ⟨rfl, _, hq⟩
    · rw [List.map_append, keys, List.map_cons]
      refine List.nodup_append.mpr ⟨hnd, List.nodup_cons.mpr ⟨fun hm => ?_, ?_⟩, fun b hb c hc e => ?_⟩
      · obtain ⟨p, hp, e⟩ := List.mem_map.mp hm
        rw [(hkm p hp).1] at e
        exact nsa e.symm
      · rcases hMs with rfl | ⟨mo, rfl⟩
        · exact List.nodup_nil
        · exact List.pairwise_singleton _ _
      · obtain ⟨p, hp, e2⟩ := List.mem_map.mp hb
        rcases List.mem_cons.mp hc with z | z
        · exact nots p hp (by rw [e2, e, z])
        · obtain ⟨q, hq, e3⟩ := List.mem_map.mp z
          rw [(hkm q hq).1] at e3
          exact nota p hp (by rw [e2, e, ← e3])
end
/-- from the promise of the law's def to the statement's goal -/
theorem walkS {l : PySem.W.OpenLaw} {n k : Nat} {q : Program} {loose : List Str} {XP : (Str → Option Value) → Heap → Prop} {YP : World → Heap → Prop} {d : DefRec} {K : Params → PySem.W.Frag} {x : Str} {ts : List Addr}
    (hn : l.most = some n) (hn2 : n ≤ sizeLine) (hdf : d.params.defaults = []) (hr : Room k callerA) (him : importsNone q = true) (hsk : ∀ w : World, (K w.params).lookup sysModules = none) (hY : ∀ (w : World) (h : Heap), YP w h → (K w.params).In h) (hTs : ∀ (w : World) (h : Heap), YP w h → ∀ P ∈ ts, h.get? P = some (PySem.W.tabObj #[]))
    (FF : ∀ (w : World) (mg : Str → Option Value) (fa : Addr) (h : Heap), (K w.params).In h → h.Ns mainGlobals mg → mg d.name = some (.ref fa) → ∀ o₀ : Obj, ∃ (fd : FuncData) (cs : List (Addr × Addr × Str)), (∀ (s : Shared) (u : Value), BindsTo s fd ⟨[u], []⟩ [(x, u)]) ∧
      (∀ p ∈ cs, p.2.1 ∈ ts) ∧ (∀ p ∈ cs, PySem.W.CodeHd h p.1 p.2.1) ∧ (∀ p ∈ cs, (K w.params).lookup p.2.1 = none) ∧ (cs.map (·.2.1)).Nodup ∧
      ∀ base : Heap, (K w.params).In base → base.Ns mainGlobals mg → (∀ p ∈ cs, TabB base mg p.1 p.2.1) → FnG l.prog w (K w.params) mg base k fa fd [x] (LawSS (K w.params) n (tbOf cs) o₀)) :
    PySem.W.WalkO q loose XP YP l.row.toRowW d [] (fun f vs => PySem.call f vs) := by
  refine Att.attach_callB hn hdf fun w s₀ t mg mb fa o pm cd doc a vs ns G Y _ _ _ hmg hobj hints hlen hbits hg => ?_
  have KX := hY w _ Y
  obtain ⟨_, ⟨o₀, es, ep, hs1, hs2, _⟩, _⟩ := (G.T.seer him).mods
  obtain ⟨fd, cs, hb, h1, h2, h3, h4, hF⟩ := FF w mg fa _ KX G.T.g hmg o₀
  exact law_headS KX G.T.g G.T.b G.T.builtins G.T.nolimit hg G.T.bmain hobj hints hlen hn2 hbits hr (fun p hp => hTs w _ Y _ (h1 p hp)) h2 h3 ⟨es, ep, hs1, hs2⟩ (hsk w) h4 hF hb
end G

/-! ### defs that may raise, called by their names -/
namespace G
open PySem PySem.Spec PyProof.Rows L2 LamX
structure CalX (P : Program) (w : World) (K : PySem.W.Frag) (mg : Str → Option Value) (base : Heap) (k : Nat) (x : Str) (st : Stmt) (ps : List Str) (S : GSpecX) : Prop where
  ex : ∃ f fd, Fun K x x st f fd ∧ mg x = some (.ref f) ∧ Binds K fd ps [] ∧ FnGX P w K mg base k f fd ps S
theorem CalX.mono {P : Program} {w : World} {K : PySem.W.Frag} {mg : Str → Option Value} {base : Heap} {j k : Nat} {x : Str} {st : Stmt} {ps : List Str} {S : GSpecX} (C : CalX P w K mg base j x st ps S) (h : j ≤ k) : CalX P w K mg base k x st ps S := by
  obtain ⟨f, fd, F, m, b, G⟩ := C.ex
  exact ⟨f, fd, F, m, b, G.mono h⟩
structure CalS (P : Program) (w : World) (K : PySem.W.Frag) (mg : Str → Option Value) (base : Heap) (k : Nat) (x : Str) (st : Stmt) (ps : List Str) (S : Around → List Env → Shared → Hp → GSpecX) : Prop where
  ex : ∃ f fd, Fun K x x st f fd ∧ mg x = some (.ref f) ∧ Binds K fd ps [] ∧ FnGS P w K mg base k f fd ps S
theorem CalS.mono {P : Program} {w : World} {K : PySem.W.Frag} {mg : Str → Option Value} {base : Heap} {j k : Nat} {x : Str} {st : Stmt} {ps : List Str} {S : Around → List Env → Shared → Hp → GSpecX} (C : CalS P w K mg base j x st ps S) (h : j ≤ k) : CalS P w K mg base k x st ps S := by
  obtain ⟨f, fd, F, m, b, G⟩ := C.ex
  exact ⟨f, fd, F, m, b, G.mono h⟩
abbrev tbE (Pt : Addr) (x : Str) : Addr × MO := (Pt, .sm (tabM (lamQ x)))
abbrev noX : XKn := fun _ _ _ _ => False
abbrev noXf : XKf := fun _ _ _ => False
section
variable {X : Cx} {ρ : List SD} {M : Mem} {Q : Kn} {Ex : XKn} {pos p : Pos} {e : Expr} {es : List Expr} {k : Nat} {x : Str} {st : Stmt} {ps : List Str} {S : GSpecX}
/-- nothing is raised -/
theorem ge_of_x (h : GEx X ρ M e Q noX) : GE X ρ M e Q := .mk fun B F H σ Q' Wd0 S s => h.run B F H σ Q' _ takes0 Wd0 S s fun _ _ _ _ _ _ _ _ q => q.elim
theorem gcalX (C : CalX X.prog X.w X.K X.mg X.base k x st ps S) (hgd : X.A.guards = some []) (hr : Room k X.A)
    (h : GA X ρ M (e :: es) fun rs M1 => ∃ Ma Mr, M1.Perm (Ma ++ Mr) ∧ S rs Ma (fun r M' => Q r (M' ++ Mr)) (fun C p M' => Ex ρ C p (M' ++ Mr))) (hg : Gl X x := by rfl) (hdb : (x == ("__debug__" : Str)) = false := by decide)
    (he : starEach (e :: es) X.env = (false, eval e X.env) :: starEach es X.env := by rfl) (hpl : (backTo pos (starEach es X.env)).any (·.1) = false := by rfl) : GEx X ρ M (.Call (.Name x p) (e :: es) [] pos) Q Ex := by
  obtain ⟨f, fd, F, m, b, G⟩ := C.ex
  exact gxcall G hgd hr m F.kp b h hg hdb he hpl
/-- .. where nothing is raised -/
theorem gcalXn (C : CalX X.prog X.w X.K X.mg X.base k x st ps S) (hgd : X.A.guards = some []) (hr : Room k X.A)
    (h : GA X ρ M (e :: es) fun rs M1 => ∃ Ma Mr, M1.Perm (Ma ++ Mr) ∧ S rs Ma (fun r M' => Q r (M' ++ Mr)) noXf) (hg : Gl X x := by rfl) (hdb : (x == ("__debug__" : Str)) = false := by decide)
    (he : starEach (e :: es) X.env = (false, eval e X.env) :: starEach es X.env := by rfl) (hpl : (backTo pos (starEach es X.env)).any (·.1) = false := by rfl) : GE X ρ M (.Call (.Name x p) (e :: es) [] pos) Q :=
  ge_of_x (gcalX C hgd hr h hg hdb he hpl)
theorem gcalXK {ks : List Str} {kw : Keyword} {kws : List Keyword} {g : {α : Type} → List α → List α} (C : CalX X.prog X.w X.K X.mg X.base k x st ps S) (kwb : ∀ f fd, Fun X.K x x st f fd → KwB X.K fd ps ks g) (hgd : X.A.guards = some []) (hr : Room k X.A)
    (h : GK X ρ M (kw :: kws) fun rs M1 => rs.length = ks.length ∧ ∃ Ma Mr, M1.Perm (Ma ++ Mr) ∧ S (g rs) Ma (fun r M' => Q r (M' ++ Mr)) (fun C p M' => Ex ρ C p (M' ++ Mr))) (hg : Gl X x := by rfl) (hdb : (x == ("__debug__" : Str)) = false := by decide)
    (hall : (backToKw pos (keywordEach (kw :: kws) X.env)).all (·.1.isSome) = true := by rfl) (hks : (backToKw pos (keywordEach (kw :: kws) X.env)).filterMap (·.1) = ks := by rfl)
    (hpl : ((backTo pos (starEach [] X.env)).any (·.1) || (backToKw pos (keywordEach (kw :: kws) X.env)).any (·.1.isNone)) = false := by rfl) : GEx X ρ M (.Call (.Name x p) [] (kw :: kws) pos) Q Ex := by
  obtain ⟨f, fd, F, m, b, G⟩ := C.ex
  exact gxcallK G hgd hr m F.kp (kwb f fd F) h hg hdb hall hks hpl
end
/-- from a promise to a weaker one -/
theorem CalX.weak {P : Program} {w : World} {K : PySem.W.Frag} {mg : Str → Option Value} {base : Heap} {k : Nat} {x : Str} {st : Stmt} {ps : List Str} {S T : GSpecX} (C : CalX P w K mg base k x st ps S) (h : ∀ rs M Kk Ke, T rs M Kk Ke → S rs M Kk Ke) : CalX P w K mg base k x st ps T := by
  obtain ⟨f, fd, F, m, b, G⟩ := C.ex
  refine ⟨f, fd, F, m, b, ⟨fun A o s H rs M Kk Ke t => G.len A o s H rs M Kk Ke (h _ _ _ _ t), fun A o s H args us vs Q E hg hr e0 hb r ⟨F', rs, M', Kk, Ke, h1, h2, h3, h4, h5⟩ => G.run A o s H args us vs Q E hg hr e0 hb r ⟨F', rs, M', Kk, Ke, h1, h2, h _ _ _ _ h3, h4, h5⟩⟩⟩
end G

/-! ### functions as values: called by a variable, in lists -/
namespace G
open PySem PySem.Spec PyProof.Rows L2 LamX
/-- a frozen list, whatever it holds -/
def lsSem (xs : List SD) : SemP where
  φ := fun F v => ∃ a vs, v = .ref a ∧ F a = some (.lst vs) ∧ Paired (VOk F) vs xs
  mono := fun e ⟨a, vs, h1, h2, h3⟩ => ⟨a, vs, h1, e _ _ h2, vMono e h3⟩
section
variable {X : Cx} {ρ : List SD} {M : Mem} {Q : Kn} {Ex : XKn} {pos : Pos} {e : Expr} {es : List Expr} {k : Nat} {f : Addr} {fd : FuncData} {ps : List Str} {T : GSpecX}
theorem gzF (h : GE X ρ M e fun r M' => ∃ l xs M2, r = .rf (.ref l) ∧ M' = (l, .lst xs) :: M2 ∧ Q (.sm (lsSem xs)) M2) : GE X ρ M e Q := .mk fun B F H σ Q' W S s => h B F H σ Q' W S fun r M' v F' H' q W' s' vv => by
  obtain ⟨l, xs, M2, rfl, rfl, q⟩ := q
  obtain rfl : v = .ref l := vv
  obtain ⟨F2, vs, s2, W2, h1, h2⟩ := W'.freezeG
  exact s _ M2 _ F2 H' q W2 (s'.trans s2) ⟨l, vs, rfl, h1, h2⟩
theorem iglsem {tg e : Expr} {QI : Nat → (Nat → SD) → Mem → Prop} (h : GE X ρ M e fun x M1 => ∃ xs, x = .sm (lsSem xs) ∧ QI xs.length (fun i => xs.getD i .un) M1) : GI X ρ M tg e QI := .mk fun B F H σ R' W S s => by
  refine wI_of (pi_list pE) (h B F H σ _ W S fun x M1 v F1 H1 hx W1 s1 vx => ?_)
  obtain ⟨xs, rfl, q⟩ := hx
  obtain ⟨a, vs, rfl, h1, h2⟩ := vx
  exact ⟨a, rfl, ⟨_, .of (W1.fh _ _ h1)⟩, s _ _ M1 _ F1 H1 q W1 s1 (git_listG h1 h2)⟩
/-- v(e, ..), v a variable that holds a def -/
theorem gxcallV (i : Nat) {x : Str} {p : Pos} (F : FnGX X.prog X.w X.K X.mg X.base k f fd ps T) (hgd : X.A.guards = some []) (hr : Room k X.A) (hρ : ρ[i]? = some (.rf (.ref f))) (hk : PySem.W.keepIn X.K (.ref f) = true) (hb : Binds X.K fd ps [])
    (h : GA X ρ M (e :: es) fun rs M1 => ∃ Ma Mr, M1.Perm (Ma ++ Mr) ∧ T rs Ma (fun r M' => Q r (M' ++ Mr)) (fun C p M' => Ex ρ C p (M' ++ Mr))) (hN : X.N[i]? = some x := by rfl) (hv : Vis X.env.scope x := by first | exact Or.inl rfl | exact Or.inr (Or.inl rfl) | exact Or.inr (Or.inr rfl))
    (hd : (x == ("__debug__" : Str)) = false := by decide) (hcd : (x == ("__classdict__" : Str)) = false := by decide)
    (he : starEach (e :: es) X.env = (false, eval e X.env) :: starEach es X.env := by rfl) (hpl : (backTo pos (starEach es X.env)).any (·.1) = false := by rfl) : GEx X ρ M (.Call (.Name x p) (e :: es) [] pos) Q Ex := ⟨fun B F' H σ Q' W tk Wd0 S' s sx => by
  obtain ⟨o, e1, e2⟩ := pget S' hρ
  obtain ⟨v, e3, e4⟩ := e2.isV rfl
  subst e3
  have e4 : v = .ref f := e4
  subst e4
  intro pins st I
  refine wpAny_Call_Name_kw (thn ((pe_var hN hv hd hcd).run pins st σ H (fun v H1 => v = .ref f ∧ H1 = H) I ⟨.ref f, e1, rfl, rfl⟩) fun u s0 hh => ?_)
  obtain ⟨v, H0, I0, r0, rfl, rfl⟩ := hh
  obtain rfl : u = Value.ref f := r0
  have z := h B F' H0 σ (fun vs H1 => spGX T vs H1 Q' (fun cls d H' => W cls d σ H')) Wd0 S' fun rs M1 vs F1 H1 hx W1 s1 vx => by
    obtain ⟨Ma, Mr, hp, hs⟩ := hx
    exact toSpX W1 hp vx (pMono s1 S') hs (s.mono s1) (sx.mono s1)
  refine PySem.W.callWith_K (h₀ := X.base) I0.ok.mod.kin hk (thn (z pos pins s0 I0) fun us s1 hh => ?_) he hpl
  obtain ⟨vs, H1, I1, r, q⟩ := hh
  refine ⟨I1.kIn, ?_⟩
  have hl : (us ++ []).length = ps.length := by
    rw [List.append_nil, ← r.length]
    exact spGX_len (A := X.A) (outer := X.stack) (s := s1) (H0 := H1) F q
  have hb' := hb s1 us I1.kIn hl
  rw [List.append_nil] at hb'
  exact runGS (args := ⟨us, []⟩) F tk hgd hr hb' I1 r q⟩
end
end G

namespace G
open PySem PySem.Spec PyProof.Rows L2 PySem.Calls
/-! ### sum(d.values()) -/
theorem meetsValues {prog : Program} {w : World} {d : Addr} {es : Array DictEntry} {ep : Nat} (hd : (d == sysModules) = false) :
    MeetsIn prog w (Builtin.«dict.values» ⟨[.ref d], []⟩) (fun _ R s => DT.Raw s.heap d es ep ∧
      R (.ok (.ret (.ref s.heap.objs.size))) { s with heap := s.heap.push { cls := .type "dict_values", data := .fields #[.ref d] } }) :=
  .of_wp fun A R s ⟨hm, h⟩ => by
    show wpAny _ _ (Builtin.Dict.noArgs "values" ⟨[.ref d], []⟩ >>= _) _ _ s
    refine wpAny_bind ?_
    unfold Builtin.Dict.noArgs
    refine wpAny_bind (wpAny_notOrdered_dict hm.typeIs ?_)
    show wpAny _ _ (pure d) _ _ s
    refine wpAny_pure ?_
    show wpAny _ _ (Builtin.Dict.showsAll d >>= _) _ _ s
    unfold Builtin.Dict.showsAll
    rw [if_neg (by rw [hd]; exact Bool.false_ne_true)]
    refine wpAny_bind (wpAny_pure ?_)
    exact wpAny_bind (wpAny_newObj_type (wpAny_pure ⟨_, rfl, h⟩))
theorem callValues {prog : Program} {w : World} {A : Around} {E : Value → Shared → Prop} {s : Shared} {d : Addr} {es : Array DictEntry} {ep : Nat} {Q : Value → Shared → Prop} (hd : (d == sysModules) = false) (hm : DT.Raw s.heap d es ep)
    (h : Q (.ref s.heap.objs.size) { s with heap := s.heap.push { cls := .type "dict_values", data := .fields #[.ref d] } }) : wpAny (model prog w) A (call (.builtin "dict.values") [.ref d]) Q E s :=
  call_meetsIn PySem.F.slot_dict_values hm.typeIs PySem.F.entry_dict_values (PySem.F.args_dict_values_1 _) (meetsValues (es := es) (ep := ep) hd) ⟨hm, h⟩
theorem sum_bound : ∀ {L : List Int}, (∀ n ∈ L, 0 ≤ n ∧ n ≤ 1000000) → 0 ≤ L.sum ∧ L.sum ≤ (L.length : Int) * 1000000
  | [], _ => ⟨Int.le_refl _, Int.le_refl _⟩
  | a :: L, h => by
    obtain ⟨h1, h2⟩ := sum_bound (L := L) fun n hn => h n (List.mem_cons_of_mem _ hn)
    obtain ⟨h3, h4⟩ := h a List.mem_cons_self
    rw [List.sum_cons, List.length_cons]
    constructor
    · omega
    · have : ((L.length + 1 : Nat) : Int) = (L.length : Int) + 1 := rfl
      rw [this, Int.add_mul]
      omega
def tSumV (td : TE) : TE := fun σ H Q => td σ H fun x H1 => ∃ (a : Addr) (kvs : List (List Key × V)) (ns : List Int), x = .ref a ∧ H1 a = some (.dT kvs) ∧ kvs.map (·.2) = ns.map V.int ∧ ns.length ≤ 1000 ∧ (∀ n ∈ ns, 0 ≤ n ∧ n ≤ 1000000) ∧ Q (.int ns.sum) H1
section
variable {X : Cx} {o : Expr} {p pos apos mpos : Pos} {td : TE}
theorem pe_sumV (hc : X.calm = true) (hg : Gl X "sum") (hm : X.mg "sum" = none) (hd : PE X o td) (hbase : attributeBase o "values" X.env (eval o X.env) = eval o X.env := by rfl) (hline : (apos.endLine == mpos.line) = true := by rfl)
    (hse : starEach [Expr.Call (.Attribute o "values" apos) [] [] mpos] X.env = [(false, eval (Expr.Call (.Attribute o "values" apos) [] [] mpos) X.env)] := by rfl) :
    PE X (.Call (.Name "sum" p) [.Call (.Attribute o "values" apos) [] [] mpos] [] pos) (tSumV td) := by
  refine ⟨fun pins s σ H Q I h => ?_⟩
  refine wpAny_Call_Name_kw (ld_blt I hg hm (u := .builtin "sum") (by first | rfl | decide +kernel) ?_ (by first | decide +kernel | decide) (by first | decide +kernel | decide))
  rw [hse]
  refine PySem.callWith_builtin1 (wpAny_Call_method0_late hbase hline (thn (hd.run pins s σ H _ I h) fun v s1 ⟨x, H1, I1, r1, a, kvs, ns, ex, ha, hv, hz, hbd, q⟩ => ?_))
  subst ex
  obtain rfl : v = Value.ref a := r1
  obtain ⟨z, hsys, xs, rel, ob, es, ep, ho, hx, hdat, he, hnd⟩ := dt_of I1.hok ha
  have ha' : a < s1.heap.objs.size := Heap.lt_size ho
  have hkn : kvs.length = ns.length := by
    have e := congrArg List.length hv
    rw [List.length_map, List.length_map] at e
    exact e
  have hsz : es.size = ns.length := by
    have l1 : es.size = xs.length := size_of_entries he
    have l2 : kvs.length = xs.length := Paired.length rel
    omega
  have hP : ∀ (i : Nat) (e : DictEntry), es[i]? = some e → ∃ t, e.val = .int (ns.getD i 0) t := fun i e hE => by
    have hi : i < es.size := by
      rcases Nat.lt_or_ge i es.size with z | z
      · exact z
      · rw [Array.getElem?_eq_none z] at hE
        cases hE
    have hi2 : i < kvs.length := by omega
    have hi3 : i < ns.length := by omega
    obtain ⟨b, hb, e1, e2, r⟩ := paired_get rel (List.getElem?_eq_getElem hi2)
    have q := entry_at he i
    rw [hb, hE] at q
    have q := Option.some.inj q
    have e3 : kvs[i].2 = V.int ns[i] := by
      have z : (kvs.map (·.2))[i]? = (ns.map V.int)[i]? := by rw [hv]
      rw [List.getElem?_map, List.getElem?_map, List.getElem?_eq_getElem hi2, List.getElem?_eq_getElem hi3] at z
      exact Option.some.inj z
    have e4 : ns.getD i 0 = ns[i] := by rw [List.getD_eq_getElem?_getD, List.getElem?_eq_getElem hi3] <;> rfl
    rw [e3] at r
    rw [e4, q]
    exact r
  refine ⟨"dict", "dict.values", F.plainAttrs_dict, F.slot_dict_values, F.type_dict_values, ⟨ob, ho, hx.1⟩, fun b e => ?_, Calls.callWith_builtin rfl (PySem.evalArgs_none ?_)⟩
  · cases e
    exact ⟨ob, ho, hx.2.1⟩
  refine callValues (es := es) (ep := ep) hsys ⟨ob, ho, hx, hdat⟩ ?_
  have k1 : ∀ b u, s1.heap.get? b = some u → (s1.heap.push { cls := .type "dict_values", data := .fields #[.ref a] }).get? b = some u := fun b u e => Heap.get?_push_of_some _ e
  refine call_sum_walk (DSub.iter_vals (v := s1.heap.objs.size) (a := a) (Heap.get?_push_size _ rfl) (k1 _ _ ho) hdat ?_)
  have sz : (s1.heap.push { cls := .type "dict_values", data := .fields #[.ref a] }).objs.size = s1.heap.objs.size + 1 := Heap.size_push _ _
  refine ⟨_, _, _, es.size, fun i v => ∃ t, v = .int (ns.getD i 0) t, _, fun i => ns.getD i 0, rfl, DSub.walksVal (a := a) (show X.A.in1.handled = none from I.ok.hd hc) (by rw [sz]; exact Nat.ne_of_lt (Nat.lt_succ_of_lt ha')) hdat hP, ⟨Heap.get?_push_size _ rfl, Heap.get?_push_of_some _ (k1 _ _ ho)⟩, fun b hb => ?_, fun i v h => h, fun j hj => ?_, fun h' tk t' hk => ?_⟩
  · show b < ((s1.heap.push _).push _).objs.size
    rw [Heap.size_push, Heap.size_push]
    rw [sz] at hb
    rcases List.mem_cons.mp hb with e | hb
    · rw [e]
      exact Nat.lt_succ_self _
    · rw [List.mem_singleton.mp hb]
      exact Nat.lt_succ_of_lt (Nat.lt_succ_of_lt ha')
  · have hj2 : j < ns.length := by omega
    have b1 : 0 ≤ ns.getD j 0 ∧ ns.getD j 0 ≤ 1000000 := by
      rw [List.getD_eq_getElem?_getD, List.getElem?_eq_getElem hj2]
      exact hbd _ (List.getElem_mem hj2)
    have b2 := sum_bound (L := ns.take (j + 1)) fun n hn => hbd n (List.mem_of_mem_take hn)
    have b3 : (ns.take (j + 1)).length ≤ 1000 := by
      rw [List.length_take]
      omega
    rw [preSum_getD]
    unfold InLong
    constructor
    · dsimp only
      omega
    · omega
  · have es : preSum (fun i => ns.getD i 0) es.size = ns.sum := by
      rw [preSum_getD, hsz, List.take_length]
    rw [es]
    refine ⟨.int _, H1, I1.kept (t' := tk) fun b u e => hk b u (fun hmem => ?_) (Heap.get?_push_of_some _ (k1 b u e)), ⟨t', rfl⟩, q⟩
    have e1 := List.mem_singleton.mp hmem
    have e2 := Heap.lt_size e
    rw [sz] at e1
    rw [e1] at e2
    exact absurd e2 (Nat.not_lt.mpr (Nat.le_succ _))
theorem paired_snd {F : Hp} : ∀ {ws : List (List Key × V)} {kvs : List (List Key × SD)}, Paired (DEnt F) ws kvs → Paired (VOk F) (ws.map (·.2)) (kvs.map (·.2))
  | _, _, .nil => .nil
  | _, _, .cons h t => .cons h.2 (paired_snd t)
/-- sum(d.values()) -/
theorem gdsum {ρ : List SD} {M : Mem} {Q : Kn} (hc : X.calm = true) (hm : X.mg "sum" = none) (h : GE X ρ M o fun x M1 => ∃ d kvs ns, x = .rf (.ref d) ∧ (d, MO.dct kvs) ∈ M1 ∧ kvs.map (·.2) = pints ns ∧ ns.length ≤ 1000 ∧ (∀ n ∈ ns, 0 ≤ n ∧ n ≤ 1000000) ∧ Q (.pu (.int ns.sum)) M1) (hg : Gl X "sum" := by rfl)
    (hbase : attributeBase o "values" X.env (eval o X.env) = eval o X.env := by rfl) (hline : (apos.endLine == mpos.line) = true := by rfl)
    (hse : starEach [Expr.Call (.Attribute o "values" apos) [] [] mpos] X.env = [(false, eval (Expr.Call (.Attribute o "values" apos) [] [] mpos) X.env)] := by rfl) : GE X ρ M (.Call (.Name "sum" p) [.Call (.Attribute o "values" apos) [] [] mpos] [] pos) Q := .mk fun B F H σ Q' W S s => by
  refine wE_of (pe_sumV hc hg hm pE hbase hline hse) (h.run B F H σ _ W S fun x M1 v F1 H1 hx W1 s1 vx => ?_)
  obtain ⟨d, kvs, ns, rfl, hd, hk, hz, hb, q⟩ := hx
  obtain rfl : v = .ref d := vx
  obtain ⟨f1, ws, f2, f3⟩ := W1.mem _ hd
  refine ⟨d, ws, ns, rfl, f2, ?_, hz, hb, s _ M1 _ F1 H1 q W1 s1 (.int _)⟩
  have z : Paired (VOk F1) (ws.map (·.2)) (kvs.map (·.2)) := paired_snd f3
  rw [hk] at z
  exact ints_of z
end
end G

namespace G
open PySem PySem.Spec PyProof.Rows L2
/-! ### tuples of known values, references among them -/
def KnV (v : V) (r : SD) : Prop := (∃ u, r = .rf u ∧ v = u) ∨ (∃ i : Int, r = .pu (.int i) ∧ v = .int i)
theorem KnV.of {F : Hp} {v : V} {r : SD} (h : KnV v r) : VOk F v r := by
  rcases h with ⟨u, rfl, rfl⟩ | ⟨i, rfl, rfl⟩
  · rfl
  · exact .int i
theorem KnV.is {F : Hp} {v w : V} {r : SD} (h : KnV v r) (hw : VOk F w r) : w = v := by
  rcases h with ⟨u, rfl, rfl⟩ | ⟨i, rfl, rfl⟩
  · exact hw
  · have hw : Dt F w (.int i) := hw
    cases hw
    rfl
theorem kn_all {F : Hp} : ∀ {vs ws : List V} {rs : List SD}, Paired KnV vs rs → Paired (VOk F) ws rs → ws = vs
  | _, _, _, .nil, .nil => rfl
  | _, _, _, .cons a b, .cons c d => by rw [a.is c, kn_all b d]
theorem kn_of {F : Hp} : ∀ {vs : List V} {rs : List SD}, Paired KnV vs rs → Paired (VOk F) vs rs
  | _, _, .nil => .nil
  | _, _, .cons a b => .cons a.of (kn_of b)
theorem kn_rf (a : Addr) : KnV (.ref a) (.rf (.ref a)) := .inl ⟨_, rfl, rfl⟩
theorem kn_int (i : Int) : KnV (.int i) (.pu (.int i)) := .inr ⟨i, rfl, rfl⟩
section
variable {X : Cx} {ρ : List SD} {M : Mem} {Q : Kn} {pos : Pos} {es : List Expr} {e a b : Expr} {D : GD} {QN : List SD → Mem → Prop}
theorem gtupR {x1 : Nat} (h : GA X ρ M es fun rs M1 => ∃ vs, Paired KnV vs rs ∧ vs.length ≤ 100000 ∧ Q (.tp vs) M1) : GE X ρ M (.Tuple es x1 pos) Q := .mk fun B F H σ Q' W S s => by
  refine wE_of (pe_tup pA) (h B F H σ _ W S fun rs M1 vs F1 H1 hx W1 s1 vx => ?_)
  obtain ⟨ws, hk, hl, q⟩ := hx
  have e := kn_all hk vx
  subst e
  refine ⟨Nat.le_trans hl (by decide), fun p hp => ?_⟩
  obtain ⟨W2, s2⟩ := W1.froz (o := .tup vs) hp
  exact s _ _ _ _ _ q W2 (s1.trans s2) ⟨p, rfl, upd_same⟩
theorem tgtupR {k : Nat} {vs : List V} {rs : List SD} {n : Nat} (hc : X.calm = true) (hk : Paired KnV vs rs) (hl : rs.length = n) (h : GGs X ρ M es rs QN) (hn : (assignEach es X.env).length = n := by rfl) (hst : (assignEach es X.env).findIdx? (·.1) = none := by rfl) : GG X ρ M (.Tuple es k pos) (.tp vs) QN := .mk fun B F H σ v Q' W S vr s => by
  obtain ⟨a, rfl, h1⟩ := vr
  exact wG_of (pg_tup hc pGs hn hst) ⟨_, _, rfl, .of (W.fh _ _ h1), by rw [Paired.length hk, hl], h B F H σ _ Q' W S (kn_of hk) s⟩
/-! ### name *= e, name //= e -/
def ipC (c : Int → Int → Prop) (f : Int → Int → Int) : TIp := fun x y H Q => ∃ i j, x = .int i ∧ y = .int j ∧ c i j ∧ Q (.int (f i j)) H
theorem ip_mul : PIp X .Mult (ipC CMul fun i j => i * j) := by
  intro pins s σ H x y v u Q I r1 r2 h
  obtain ⟨i, j, e1, e2, hc, q⟩ := h
  subst e1; subst e2
  obtain ⟨t, rfl⟩ := r1
  obtain ⟨t', rfl⟩ := r2
  exact imul_int ⟨.int _, H, I.tok _, ⟨_, rfl⟩, q⟩ hc.ok
theorem ip_fdiv : PIp X .FloorDiv (ipC CDiv fun i j => i / j) := by
  intro pins s σ H x y v u Q I r1 r2 h
  obtain ⟨i, j, e1, e2, hc, q⟩ := h
  exact iop_fdiv pins s σ H x y v u Q I r1 r2 ⟨i, j, e1, e2, hc, q⟩
theorem saugM (i : Nat) {x : Str} {pos' : Pos} {n : Int} (hN : X.N.Nodup) (hr : ρ[i]? = some (.pu (.int n))) (h : GE X ρ M e fun r M1 => ∃ j, r = .pu (.int j) ∧ CMul n j ∧ D.nx (ρ.set i (.pu (.int (n * j)))) M1) (hi : X.N[i]? = some x := by rfl) (hx : Loc X.env.scope x := by first | exact Or.inl rfl | exact Or.inr rfl) (hf : X.fn x = true ∨ X.env.scope.names.lookup x = some .local := by first | exact .inl rfl | exact .inr rfl | assumption) :
    GS X ρ M (.AugAssign (.Name x pos') .Mult e pos) D := .mk fun B F H σ D' W S s => by
  obtain ⟨o, e1, e2⟩ := pget S hr
  obtain ⟨v, e3, e4⟩ := e2.isV rfl
  subst e3
  have e4 : Dt F v (.int n) := e4
  cases e4
  refine wS_of (ps_aug hN hi hx pE ip_mul hf) ⟨_, e1, h B F H σ _ W S fun r M1 v F1 H1 q W1 s1 vv => ?_⟩
  obtain ⟨j, rfl, hc, q⟩ := q
  have vv : Dt F1 v (.int j) := vv
  cases vv
  exact ⟨n, j, rfl, rfl, hc, s.nx _ _ _ F1 H1 q W1 s1 (pset (show SOk F1 (some (V.int _)) (.pu (.int _)) from Dt.int _) i (pMono s1 S))⟩
theorem saugD (i : Nat) {x : Str} {pos' : Pos} {n : Int} (hN : X.N.Nodup) (hr : ρ[i]? = some (.pu (.int n))) (h : GE X ρ M e fun r M1 => ∃ j, r = .pu (.int j) ∧ CDiv n j ∧ D.nx (ρ.set i (.pu (.int (n / j)))) M1) (hi : X.N[i]? = some x := by rfl) (hx : Loc X.env.scope x := by first | exact Or.inl rfl | exact Or.inr rfl) (hf : X.fn x = true ∨ X.env.scope.names.lookup x = some .local := by first | exact .inl rfl | exact .inr rfl | assumption) :
    GS X ρ M (.AugAssign (.Name x pos') .FloorDiv e pos) D := .mk fun B F H σ D' W S s => by
  obtain ⟨o, e1, e2⟩ := pget S hr
  obtain ⟨v, e3, e4⟩ := e2.isV rfl
  subst e3
  have e4 : Dt F v (.int n) := e4
  cases e4
  refine wS_of (ps_aug hN hi hx pE ip_fdiv hf) ⟨_, e1, h B F H σ _ W S fun r M1 v F1 H1 q W1 s1 vv => ?_⟩
  obtain ⟨j, rfl, hc, q⟩ := q
  have vv : Dt F1 v (.int j) := vv
  cases vv
  exact ⟨n, j, rfl, rfl, hc, s.nx _ _ _ F1 H1 q W1 s1 (pset (show SOk F1 (some (V.int _)) (.pu (.int _)) from Dt.int _) i (pMono s1 S))⟩
/-! ### factorial, comb -/
def rFact : List V → Hp → VK → Prop := fun vs H Q => ∃ n : Nat, vs = [.int n] ∧ n ≤ 1000 ∧ Q (.int ((Builtin.Math.factorialNat n : Nat) : Int)) H
theorem cr_fact : CallR X (.builtin "math.factorial") rFact := by
  intro pins s σ H vs us Q I r h
  obtain ⟨n, rfl, hn, q⟩ := h
  cases r with
  | cons r1 r2 =>
    cases r2
    obtain ⟨t, rfl⟩ := r1
    exact PySem.W.mc_factorial (by omega) (by omega) fun _ => ⟨.int _, H, I.tok _, ⟨_, rfl⟩, q⟩
def rComb : List V → Hp → VK → Prop := fun vs H Q => ∃ a b : Nat, vs = [.int a, .int b] ∧ a ≤ 1000 ∧ b ≤ 1000 ∧ Q (.int (PySem.W.mcComb a b)) H
theorem cr_comb : CallR X (.builtin "math.comb") rComb := by
  intro pins s σ H vs us Q I r h
  obtain ⟨a, b, rfl, ha, hb, q⟩ := h
  obtain ⟨t, u, rfl⟩ := Vals.int2 r
  exact PySem.W.mc_comb (by omega) (by omega) (by omega) (by omega) fun _ => ⟨.int _, H, I.tok _, ⟨_, rfl⟩, q⟩
theorem gfact {p : Pos} (hm : X.mg "factorial" = some (.builtin "math.factorial")) (h : GE X ρ M e fun r M1 => ∃ n : Nat, r = .pu (.int n) ∧ n ≤ 1000 ∧ Q (.pu (.int ((Builtin.Math.factorialNat n : Nat) : Int))) M1) (hg : Gl X "factorial" := by rfl) (he : starEach [e] X.env = (false, eval e X.env) :: starEach [] X.env := by rfl) (hpl : (backTo pos (starEach [] X.env)).any (·.1) = false := by rfl) :
    GE X ρ M (.Call (.Name "factorial" p) [e] [] pos) Q := .mk fun B F H σ Q' W S s => by
  refine wE_of (pe_callBfun cr_fact hg hm pA (by decide) he hpl) ((acons (h.mono fun r M1 q => anil ⟨r, rfl, q⟩) he : GA X ρ M [e] fun rs M1 => ∃ r, rs = [r] ∧ ∃ n : Nat, r = .pu (.int n) ∧ n ≤ 1000 ∧ Q (.pu (.int ((Builtin.Math.factorialNat n : Nat) : Int))) M1) B F H σ _ W S fun rs M1 vs F1 H1 hx W1 s1 vx => ?_)
  obtain ⟨r, rfl, n, rfl, hn, q⟩ := hx
  obtain ⟨v, rfl, hv⟩ := p1 vx
  have hv : Dt F1 v (.int n) := hv
  cases hv
  exact ⟨n, rfl, hn, s _ M1 _ F1 H1 q W1 s1 (.int _)⟩
theorem gcomb {p : Pos} (hm : X.mg "comb" = some (.builtin "math.comb")) (h : GA X ρ M [a, b] fun rs M1 => ∃ i j : Nat, rs = [.pu (.int i), .pu (.int j)] ∧ i ≤ 1000 ∧ j ≤ 1000 ∧ Q (.pu (.int (PySem.W.mcComb i j))) M1) (hg : Gl X "comb" := by rfl) (he : starEach [a, b] X.env = (false, eval a X.env) :: starEach [b] X.env := by rfl) (hpl : (backTo pos (starEach [b] X.env)).any (·.1) = false := by rfl) :
    GE X ρ M (.Call (.Name "comb" p) [a, b] [] pos) Q := .mk fun B F H σ Q' W S s => by
  refine wE_of (pe_callBfun cr_comb hg hm pA (by decide) he hpl) (h B F H σ _ W S fun rs M1 vs F1 H1 hx W1 s1 vx => ?_)
  obtain ⟨i, j, rfl, hi, hj, q⟩ := hx
  obtain ⟨v, w, rfl, hv, hw⟩ := p2 vx
  have hv : Dt F1 v (.int i) := hv
  have hw : Dt F1 w (.int j) := hw
  cases hv
  cases hw
  exact ⟨i, j, rfl, hi, hj, s _ M1 _ F1 H1 q W1 s1 (.int _)⟩
end
end G

/-! ### tuples that hold whatever -/
namespace G
open PySem PySem.Spec PyProof.Rows L2
def tpSem (xs : List SD) : SemP where
  φ := fun F v => ∃ a vs, v = .ref a ∧ F a = some (.tup vs) ∧ Paired (VOk F) vs xs
  mono := fun e ⟨a, vs, h1, h2, h3⟩ => ⟨a, vs, h1, e _ _ h2, vMono e h3⟩
section
variable {X : Cx} {ρ : List SD} {M : Mem} {Q : Kn} {QN : List SD → Mem → Prop} {pos : Pos} {a b e : Expr} {es : List Expr}
theorem gtupS {x1 : Nat} (h : GA X ρ M es fun rs M1 => rs.length ≤ 100000 ∧ Q (.sm (tpSem rs)) M1) : GE X ρ M (.Tuple es x1 pos) Q := .mk fun B F H σ Q' W S s => by
  refine wE_of (pe_tup pA) (h B F H σ _ W S fun rs M1 vs F1 H1 hx W1 s1 vx => ?_)
  obtain ⟨hl, q⟩ := hx
  have el : vs.length = rs.length := Paired.length vx
  refine ⟨by rw [el]; exact Nat.le_trans hl (by decide), fun p hp => ?_⟩
  obtain ⟨W2, s2⟩ := W1.froz (o := .tup vs) hp
  exact s _ _ _ _ _ q W2 (s1.trans s2) ⟨p, vs, rfl, upd_same, vMono s2 vx⟩
theorem gixS (h : GE X ρ M a fun x M1 => GE X ρ M1 b fun y M2 => ∃ xs i r, x = .sm (tpSem xs) ∧ y = .pu (.int i) ∧ atI xs i = some r ∧ Q r M2) (hs : PlainIx b := by intro _ _; rfl) : GE X ρ M (.Subscript a b pos) Q := .mk fun B F H σ Q' W S s => by
  refine wE_of (pe_ix ix_seq pE pE hs) (h B F H σ _ W S fun x M1 v F1 H1 hx W1 s1 vx => ?_)
  refine hx B F1 H1 σ _ W1 (pMono s1 S) fun y M2 w F2 H2 hy W2 s2 wy => ?_
  obtain ⟨xs, i, r, rfl, rfl, ha, q⟩ := hy
  have wy : Dt F2 w (.int i) := wy
  cases wy
  obtain ⟨p, vs, rfl, h1, h2⟩ := vx
  have h2 := vMono s2 h2
  obtain ⟨u, e1, e2⟩ := atI_rel (R := VOk F2) _ _ (Paired.length h2) (fun i d e => paired_at h2 e) ha
  exact .inr (.inl ⟨_, _, i, u, rfl, rfl, .of (W2.fh _ _ (s2 _ _ h1)), e1, s _ M2 _ F2 H2 q W2 (s1.trans s2) e2⟩)
/-- x, y = t -/
theorem tgtupS {k n : Nat} {xs : List SD} (hc : X.calm = true) (hl : xs.length = n) (h : GGs X ρ M es xs QN) (hn : (assignEach es X.env).length = n := by rfl) (hst : (assignEach es X.env).findIdx? (·.1) = none := by rfl) : GG X ρ M (.Tuple es k pos) (.sm (tpSem xs)) QN := .mk fun B F H σ v Q' W S vr s => by
  obtain ⟨p, vs, rfl, h1, h2⟩ := vr
  exact wG_of (pg_tup hc pGs hn hst) ⟨_, _, rfl, .of (W.fh _ _ h1), by rw [Paired.length h2, hl], h B F H σ _ Q' W S h2 s⟩
end
end G

namespace K01
open PySem PySem.Spec PyProof.Rows L2 G
abbrev sCkKey : Stmt := topS 7
abbrev sPath : Stmt := topS 11
abbrev sEnd : Stmt := topS 12
abbrev sPathB : Stmt := topS 13
abbrev sEndB : Stmt := topS 14
abbrev sKeys : Stmt := topS 24
section
variable {P : Program} {w : World} {K : PySem.W.Frag} {mg : Str → Option Value} {base : Heap} {f : Addr} {fd : FuncData} {k : Nat}
def SWalkL : GSpec := fun rs M Kk => ∃ T n key, IsTab T n ∧ rs = [.pu (tab T), .pu (.int key)] ∧ M = [] ∧ ∀ l, Kk (.sm (tpSem [.rf (.ref l), .pu (enD (run T n key).2)])) [(l, .lst ((run T n key).1.map pld))]
theorem fWalkL (F : Fun K "walk" "walk" sWalk f fd) (b : Bl mg) : FnG P w K mg base (k + 1) f fd ["table", "key"] SWalkL := by
  refine fnG F scWalk (fun rs M Kk ⟨T, n, key, t, e, _⟩ => by rw [e]; rfl) fun cdv A outer s H hgd hr rs M Kk hS => ?_
  obtain ⟨T, n, key, t, rfl, rfl, q⟩ := hS
  refine bcons (sset 2 scWalk.nd (glst (anil ⟨Nat.zero_le _, fun l => ?_⟩)))
  refine bcons (sset 3 scWalk.nd (gi ?_))
  refine bcons (sset 4 scWalk.nd (gsub (glen b.len (gix (gv 0 rfl (gi ⟨(0 : Nat), _, rfl, tab_ix t.pos, _, row_len, _, rfl, gi ⟨1, rfl, ?_⟩⟩))))))
  rw [t.row t.pos]
  refine bseq (WkEnd T n key) (swhile PassesOwn.never (WkAt T n key) (T.length + n) ⟨0, n, [], .un, l, rfl, rfl, Nat.zero_le _, Nat.le_refl _, by omega, by simp, rfl, rfl⟩ fun fu ρ' M' h => ?_) fun ρ' M' h => ?_
  · obtain ⟨i, c, L, v, l, rfl, rfl, hi, hc, hf, hL, e1, e2⟩ := h
    refine tand (tlt (gv 3 rfl ⟨_, rfl, glen b.len (gv 0 rfl ⟨_, tab_len, _, rfl, ?_⟩)⟩))
    have done : ¬ (i < T.length ∧ 0 < c) → WkEnd T n key [.pu (tab T), .pu (.int key), .rf (.ref l), .pu (.int i), .pu (.int ((c : Int) - 1)), v] [(l, .lst (L.map pld))] := fun hn => by
      have g : go T key fu i c = ([], ((i : Int), (c : Int) - 1)) := by
        cases fu with
        | zero => rfl
        | succ fu =>
          unfold go
          rw [if_neg hn]
      rw [g] at e1 e2
      simp only [List.append_nil] at e1
      exact ⟨v, l, by rw [← e2], by rw [← e1]⟩
    refine iteB (fun h => ?_) fun h => done ?_
    · refine tge (gv 4 rfl ⟨_, rfl, gi ⟨0, rfl, iteB (fun h2 => ?_) fun h2 => done ?_⟩⟩)
      · have h1 : i < T.length := by simpa using h
        have h3 : 0 < c := by
          have := of_decide_eq_true h2
          omega
        obtain ⟨fu, rfl⟩ : ∃ f', fu = f' + 1 := ⟨fu - 1, by omega⟩
        have hj : c - 1 < n := by omega
        have hcc : (c : Int) - 1 = ((c - 1 : Nat) : Int) := by omega
        have g : go T key (fu + 1) i c = if val T i (c - 1) = key then ([(i, c - 1)], ((i : Int), (c : Int) - 1)) else if val T i (c - 1) < key then ((i, c - 1) :: (go T key fu (i + 1) c).1, (go T key fu (i + 1) c).2) else ((i, c - 1) :: (go T key fu i (c - 1)).1, (go T key fu i (c - 1)).2) := by
          show (if i < T.length ∧ 0 < c then _ else _) = _
          rw [if_pos ⟨h1, h3⟩]
        rw [g] at e1 e2
        have h8 := t.le
        have h9 := t.nle
        rw [hcc] at e1 e2 ⊢
        refine bcons (sexpr (gapp (gv 2 rfl ⟨l, _, rfl, List.mem_cons_self, gtup (acons (gv 3 rfl (acons (gv 4 rfl (anil ⟨[.int i, .int ((c - 1 : Nat) : Int)], rfl, le2, L.map pld, [], [], rfl, ?_, ?_⟩)))))⟩)))
        · rw [List.length_map]
          omega
        refine bcons (sset 5 scWalk.nd (gix (gix (gv 0 rfl (gv 3 rfl ⟨(i : Nat), _, rfl, tab_ix h1, gv 4 rfl ⟨((c - 1 : Nat) : Int), _, rfl, val_ix t h1 hj, ?_⟩⟩)))))
        refine bcons (sif (teqI (gv 5 rfl ⟨_, rfl, gv 1 rfl ⟨_, rfl, iteB (fun hv => bone (sbreak ?_)) fun hv => bnil (bone (sif (tlt (gv 5 rfl ⟨_, rfl, gv 1 rfl ⟨_, rfl, iteB (fun hv2 => bone ?_) fun hv2 => bone ?_⟩⟩))))⟩⟩)))
        · rw [if_pos (of_decide_eq_true hv)] at e1 e2
          refine ⟨.pu (.int (val T i (c - 1))), l, ?_, ?_⟩
          · rw [← e2]
            rfl
          · rw [← e1, List.map_append]
            rfl
        · have hv := of_decide_eq_false hv
          rw [if_neg hv, if_pos (of_decide_eq_true hv2)] at e1 e2
          refine saug 3 scWalk.nd rfl (gi ⟨1, rfl, fu, Nat.lt_succ_self fu, i + 1, c, L ++ [(i, c - 1)], .pu (.int (val T i (c - 1))), l, ?_, ?_, by omega, hc, by omega, ?_, ?_, e2⟩)
          · rw [hcc]
            rfl
          · rw [List.map_append]
            rfl
          · rw [List.length_append, List.length_singleton]
            omega
          · rw [← e1, List.append_assoc]
            rfl
        · have hv := of_decide_eq_false hv
          rw [if_neg hv, if_neg (of_decide_eq_false hv2)] at e1 e2
          refine saugs 4 scWalk.nd rfl (gi ⟨1, rfl, fu, Nat.lt_succ_self fu, i, c - 1, L ++ [(i, c - 1)], .pu (.int (val T i (c - 1))), l, rfl, ?_, hi, by omega, by omega, ?_, ?_, e2⟩)
          · rw [List.map_append]
            rfl
          · rw [List.length_append, List.length_singleton]
            omega
          · rw [← e1, List.append_assoc]
            rfl
      · have := of_decide_eq_false h2
        omega
    · have := of_decide_eq_false h
      omega
  · obtain ⟨v, l, rfl, rfl⟩ := h
    exact bone (sret (gtupS (acons (gv 2 rfl (acons (gtup (acons (gv 3 rfl (acons (gv 4 rfl (anil ⟨_, rfl, le2, anil ⟨le2, q l⟩⟩)))))))))))
theorem scCkKey : FnScope ["key"] ["key"] (defScope sCkKey) := ⟨rfl, rfl, rfl, by decide +kernel, rfl, by decide +kernel, by decide +kernel⟩
def SCkKey : GSpec := fun rs M Kk => ∃ i, rs = [.pu (.int i)] ∧ M = [] ∧ Kk (.pu .none) []
theorem fCkKey (F : Fun K "check_key" "check_key" sCkKey f fd) (b : Bl mg) (CW : Cal P w K mg base k "is_whole" sWhole ["thing"] SWhole) : FnG P w K mg base (k + 1) f fd ["key"] SCkKey := by
  refine fnG F scCkKey (fun rs M Kk ⟨i, e, _⟩ => by rw [e]; rfl) fun cdv A outer s H hgd hr rs M Kk hS => ?_
  obtain ⟨i, rfl, rfl, q⟩ := hS
  exact bone (sif (tnot (tval (gcalD whole_mono CW hgd hr (acons (gv 0 rfl (anil ⟨i, rfl, rfl, true, rfl, iteF (bnil q)⟩)))))))
theorem ckKey_mono : ∀ rs M Kk Kk', SCkKey rs M Kk → (∀ r M', Kk r M' → Kk' r M') → SCkKey rs M Kk' := fun rs M Kk Kk' ⟨i, e, m, q⟩ h => ⟨i, e, m, h _ _ q⟩
/-- the path of a search -/
abbrev rdD (L : List (Nat × Nat)) : PyData := .list (L.map plD)
theorem scPath : FnScope ["table", "key"] ["table", "key"] (defScope sPath) := ⟨rfl, rfl, rfl, by decide +kernel, rfl, by decide +kernel, by decide +kernel⟩
def SPath : GSpec := fun rs M Kk => ∃ T n key, IsTab T n ∧ rs = [.pu (tab T), .pu (.int key)] ∧ M = [] ∧ ∀ l, Kk (.rf (.ref l)) [(l, .lst ((run T n key).1.map pld))]
theorem fPath (F : Fun K "path" "path" sPath f fd) (b : Bl mg) (CT : Cal P w K mg base k "check_table" sCkTab ["table"] SCkTab) (CK : Cal P w K mg base k "check_key" sCkKey ["key"] SCkKey) (CW : Cal P w K mg base k "walk" sWalk ["table", "key"] SWalkL) : FnG P w K mg base (k + 1) f fd ["table", "key"] SPath := by
  refine fnG F scPath (fun rs M Kk ⟨T, n, key, t, e, _⟩ => by rw [e]; rfl) fun cdv A outer s H hgd hr rs M Kk hS => ?_
  obtain ⟨T, n, key, t, rfl, rfl, q⟩ := hS
  refine bcons (sexpr (gcalD ckTab_mono CT hgd hr (acons (gv 0 rfl (anil ⟨T, n, t, rfl, rfl, fun _ => ?_⟩)))))
  refine bcons (sexpr (gcalD ckKey_mono CK hgd hr (acons (gv 1 rfl (anil ⟨key, rfl, rfl, ?_⟩)))))
  exact bone (sret (gixS (gcalP CW hgd hr (acons (gv 0 rfl (acons (gv 1 rfl (anil ⟨T, n, key, t, rfl, rfl, fun l => gi ⟨_, ((0 : Nat) : Int), _, rfl, rfl, atI_nat (j := 0) rfl, q l⟩⟩))))))))
theorem scEnd : FnScope ["table", "key"] ["table", "key"] (defScope sEnd) := ⟨rfl, rfl, rfl, by decide +kernel, rfl, by decide +kernel, by decide +kernel⟩
def SEnd : GSpec := fun rs M Kk => ∃ T n key, IsTab T n ∧ rs = [.pu (tab T), .pu (.int key)] ∧ M = [] ∧ ∀ M', Kk (.pu (enD (run T n key).2)) M'
theorem fEnd (F : Fun K "end" "end" sEnd f fd) (b : Bl mg) (CT : Cal P w K mg base k "check_table" sCkTab ["table"] SCkTab) (CK : Cal P w K mg base k "check_key" sCkKey ["key"] SCkKey) (CW : Cal P w K mg base k "walk" sWalk ["table", "key"] SWalkL) : FnG P w K mg base (k + 1) f fd ["table", "key"] SEnd := by
  refine fnG F scEnd (fun rs M Kk ⟨T, n, key, t, e, _⟩ => by rw [e]; rfl) fun cdv A outer s H hgd hr rs M Kk hS => ?_
  obtain ⟨T, n, key, t, rfl, rfl, q⟩ := hS
  refine bcons (sexpr (gcalD ckTab_mono CT hgd hr (acons (gv 0 rfl (anil ⟨T, n, t, rfl, rfl, fun _ => ?_⟩)))))
  refine bcons (sexpr (gcalD ckKey_mono CK hgd hr (acons (gv 1 rfl (anil ⟨key, rfl, rfl, ?_⟩)))))
  exact bone (sret (gixS (gcalP CW hgd hr (acons (gv 0 rfl (acons (gv 1 rfl (anil ⟨T, n, key, t, rfl, rfl, fun l => gi ⟨_, ((1 : Nat) : Int), _, rfl, rfl, atI_nat (j := 1) rfl, q _⟩⟩))))))))
abbrev NPathB : List Str := ["table", "key", "row", "column"]
theorem scPathB : FnScope NPathB ["table", "key"] (defScope sPathB) := ⟨rfl, rfl, rfl, by decide +kernel, rfl, by decide +kernel, by decide +kernel⟩
/-- a path in the turned table, turned back -/
def backL (T : Tab) (n : Nat) (key : Int) : List (Nat × Nat) := (run (turn T n) T.length key).1.map fun p => (p.2, p.1)
def SPathB : GSpec := fun rs M Kk => ∃ T n key, IsTab T n ∧ rs = [.pu (tab T), .pu (.int key)] ∧ M = [] ∧ ∀ l, Kk (.rf (.ref l)) [(l, .lst ((backL T n key).map pld))]
theorem run_len (T : Tab) (n : Nat) (k : Int) : (run T n k).1.length ≤ T.length + n := go_len ..
theorem fPathB (F : Fun K "path_from_below" "path_from_below" sPathB f fd) (b : Bl mg) (CT : Cal P w K mg base k "check_table" sCkTab ["table"] SCkTab) (CK : Cal P w K mg base k "check_key" sCkKey ["key"] SCkKey) (CW : Cal P w K mg base k "walk" sWalk ["table", "key"] SWalkL) (CN : Cal P w K mg base k "turned" sTurned ["table"] STurned) : FnG P w K mg base (k + 1) f fd ["table", "key"] SPathB := by
  refine fnG F scPathB (fun rs M Kk ⟨T, n, key, t, e, _⟩ => by rw [e]; rfl) fun cdv A outer s H hgd hr rs M Kk hS => ?_
  obtain ⟨T, n, key, t, rfl, rfl, q⟩ := hS
  have t' := turn_is t
  have h8 := t.le
  have h9 := t.nle
  refine bcons (sexpr (gcalD ckTab_mono CT hgd hr (acons (gv 0 rfl (anil ⟨T, n, t, rfl, rfl, fun _ => ?_⟩)))))
  refine bcons (sexpr (gcalD ckKey_mono CK hgd hr (acons (gv 1 rfl (anil ⟨key, rfl, rfl, ?_⟩)))))
  refine bone (sret (gf (glc (.pair 3 2) (own := [("row", 2), ("column", 3)]) rfl scPathB.nd (blkOk_by (N := NPathB) (sc := defScope sPathB) (by decide +kernel)) (fun _ _ _ _ _ => pg_tup rfl (pgs_cons (pg_name (i := 3) scPathB.nd rfl (.inl rfl)) (pgs_cons (pg_name (i := 2) scPathB.nd rfl (.inl rfl)) pgs_nil))) (by decide) (igmem (gixS ?_)))))
  refine gcalP CW hgd hr (acons ?_)
  refine gcalD turned_mono CN hgd hr (acons (gv 0 rfl (anil ⟨T, n, t, rfl, rfl, fun M' => ?_⟩)))
  refine acons (gv 1 rfl (anil ⟨turn T n, T.length, key, t', rfl, rfl, fun l => gi ⟨_, ((0 : Nat) : Int), _, rfl, rfl, atI_nat (j := 0) rfl, l, _, _, rfl, rfl, ?_⟩⟩))
  have hl := run_len (turn T n) T.length key
  rw [turn_len] at hl
  rw [List.length_map]
  refine lc_map (fun i => pld (((run (turn T n) T.length key).1.getD i (0, 0)).2, ((run (turn T n) T.length key).1.getD i (0, 0)).1)) (by omega) (fun i hi => ?_) fun l => ⟨[(l, .lst ((backL T n key).map pld))], ?_, q l⟩
  · rw [show ((run (turn T n) T.length key).1.map pld).getD i .un = pld ((run (turn T n) T.length key).1.getD i (0, 0)) by rw [G.getD_at (by rw [List.length_map]; exact hi), List.getElem_map, G.getD_at hi]]
    refine ⟨_, rfl, ?_⟩
    rintro Y ⟨s', H', C, cl, fp, rfl⟩
    exact gtup (acons (gv 2 rfl (acons (gv 3 rfl (anil ⟨[.int _, .int _], rfl, le2, rfl, rfl⟩)))))
  · rw [range_map (run (turn T n) T.length key).1 (0, 0) (fun p => pld (p.2, p.1))]
    unfold backL
    rw [List.map_map]
    exact List.Sublist.cons_cons _ (List.nil_sublist _)
abbrev NEndB : List Str := ["table", "key", "column", "row"]
theorem scEndB : FnScope NEndB ["table", "key"] (defScope sEndB) := ⟨rfl, rfl, rfl, by decide +kernel, rfl, by decide +kernel, by decide +kernel⟩
def SEndB : GSpec := fun rs M Kk => ∃ T n key, IsTab T n ∧ rs = [.pu (tab T), .pu (.int key)] ∧ M = [] ∧ ∀ M', Kk (.pu (enD ((run (turn T n) T.length key).2.2, (run (turn T n) T.length key).2.1))) M'
theorem fEndB (F : Fun K "end_from_below" "end_from_below" sEndB f fd) (b : Bl mg) (CT : Cal P w K mg base k "check_table" sCkTab ["table"] SCkTab) (CK : Cal P w K mg base k "check_key" sCkKey ["key"] SCkKey) (CW : Cal P w K mg base k "walk" sWalk ["table", "key"] SWalkL) (CN : Cal P w K mg base k "turned" sTurned ["table"] STurned) : FnG P w K mg base (k + 1) f fd ["table", "key"] SEndB := by
  refine fnG F scEndB (fun rs M Kk ⟨T, n, key, t, e, _⟩ => by rw [e]; rfl) fun cdv A outer s H hgd hr rs M Kk hS => ?_
  obtain ⟨T, n, key, t, rfl, rfl, q⟩ := hS
  have t' := turn_is t
  refine bcons (sexpr (gcalD ckTab_mono CT hgd hr (acons (gv 0 rfl (anil ⟨T, n, t, rfl, rfl, fun _ => ?_⟩)))))
  refine bcons (sexpr (gcalD ckKey_mono CK hgd hr (acons (gv 1 rfl (anil ⟨key, rfl, rfl, ?_⟩)))))
  refine bcons (sasg (gixS (gcalP CW hgd hr (acons ?_))))
  refine gcalD turned_mono CN hgd hr (acons (gv 0 rfl (anil ⟨T, n, t, rfl, rfl, fun M' => ?_⟩)))
  refine acons (gv 1 rfl (anil ⟨turn T n, T.length, key, t', rfl, rfl, fun l => gi ⟨_, ((1 : Nat) : Int), _, rfl, rfl, atI_nat (j := 1) rfl, ?_⟩⟩))
  refine tgtup rfl rfl (tgscons (tgname 2 (tgscons (tgname 3 (tgsnil ?_) scEndB.nd)) scEndB.nd))
  exact bone (sret (gtup (acons (gv 3 rfl (acons (gv 2 rfl (anil ⟨[.int _, .int _], rfl, le2, q _⟩)))))))
end
end K01

namespace K01
open PySem PySem.Spec PyProof.Rows L2 G
/-- keys that rise, the first below and the last above all values -/
structure KeysOf (T : Tab) (ks : List Int) : Prop where
  up : ks.Pairwise (· < ·)
  lo : ∃ a ∈ ks, ∀ v ∈ T.flatten, a < v
  hi : ∃ b ∈ ks, ∀ v ∈ T.flatten, v < b
  len : ks.length ≤ 4000
section
variable {P : Program} {w : World} {K : PySem.W.Frag} {mg : Str → Option Value} {base : Heap} {f : Addr} {fd : FuncData} {k : Nat}
abbrev NKeys : List Str := ["_law_net", "_law_told", "_law_some", "_law_value", "_law_one", "_law_other"]
theorem scKeys : FnScope NKeys ["_law_net"] (defScope sKeys) := ⟨rfl, rfl, rfl, by decide +kernel, rfl, by decide +kernel, by decide +kernel⟩
def SKeys : GSpec := fun rs M Kk => ∃ T n, IsTab T n ∧ rs = [.pu (tab T)] ∧ M = [] ∧ ∀ l ks M', KeysOf T ks → Kk (.rf (.ref l)) ((l, .lst (pints ks)) :: M')
theorem snoc_ne : ∀ {L : List Int}, 0 < L.length → ∃ M z, L = M ++ [z] := fun h => SrtO.snoc_of h
theorem tab_ne {T : Tab} {n : Nat} (t : IsTab T n) : T.map pints ≠ [] := fun e => by
  have := t.pos
  have e := congrArg List.length e
  rw [List.length_map] at e
  simp at e
  rw [e] at this
  exact absurd this (by decide)
theorem fKeys (F : Fun K "_law_keys" "_law_keys" sKeys f fd) (b : Bl mg) : FnG P w K mg base (k + 1) f fd ["_law_net"] SKeys := by
  refine fnG F scKeys (fun rs M Kk ⟨T, n, t, e, _⟩ => by rw [e]; rfl) fun cdv A outer s H hgd hr rs M Kk hS => ?_
  obtain ⟨T, n, t, rfl, rfl, q⟩ := hS
  have h8 := t.le
  have h9 := t.nle
  have fl := flat_len t.rows
  have hmn : T.length * n ≤ 64 := Nat.mul_le_mul h8 h9
  have vin := val_in t t.pos t.npos
  refine bcons (sset 1 scKeys.nd (gzn (gsortset rfl b.sorted b.set (gsumL rfl b.sum (gv 0 rfl (glst (anil ⟨Nat.zero_le _, fun st => ⟨_, T.map pints, st, .pu, lv_rows T, tab_ne t, rfl, List.mem_cons_self, ?_, fun l0 => ⟨T.flatten, .mem ?_, ?_, fun l L up hm hl => ⟨l, _, L.map .int, _, rfl, rfl, pints_pu L, ?_⟩⟩⟩⟩)))))))
  · rw [pints_flat, pints_len, fl]
    omega
  · rw [pints_flat]
    exact List.mem_cons_self
  · rw [fl]
    omega
  have hL : L.length ≤ 64 := by omega
  have h0 : 0 < L.length := by
    have := (hm _).mpr vin
    exact List.length_pos_of_mem this
  have up2 : ∀ {i j : Nat} (h : i < j) (hj : j < L.length), L[i]'(by omega) < L[j] := fun h hj => List.pairwise_iff_getElem.mp up _ _ _ _ h
  clear hl st l0
  refine bcons (sset 2 scKeys.nd (gzn (gsumL rfl b.sum (glc (.name 3) (own := [("_law_value", 3)]) rfl scKeys.nd (blkOk_by (N := NKeys) (sc := defScope sKeys) (by decide +kernel)) (fun _ _ _ _ _ => pg_name (i := 3) scKeys.nd rfl (Or.inl rfl)) (by decide) (iglist (gv 1 rfl ⟨L.map .int, rfl, ?_⟩))))))
  rw [List.length_map]
  refine lc_map (fun i => .pu (.list ([L.getD i 0 - 1, L.getD i 0, L.getD i 0 + 1].map .int))) (by omega) (fun i hi => ?_) fun l2 => ?_
  · rw [nth_map PyData.int 0 hi]
    refine ⟨_, rfl, ?_⟩
    rintro Y ⟨s', H', C, cl, fp, rfl⟩
    refine gz (glst (acons (gsub (gv 3 rfl ⟨_, rfl, gi ⟨1, rfl, acons (gv 3 rfl (acons (gadd (gv 3 rfl ⟨_, rfl, gi ⟨1, rfl, anil ⟨le3, fun l3 => ?_⟩⟩⟩))))⟩⟩))))
    exact ⟨l3, [.int _, .int _, .int _], _, rfl, rfl, rfl, rfl⟩
  rw [range_map L 0 (fun v => SD.pu (.list ([v - 1, v, v + 1].map .int)))]
  refine glst (anil ⟨Nat.zero_le _, fun st => ⟨_, L.map (fun v => pints [v - 1, v, v + 1]), st, .mem (List.mem_cons_of_mem _ List.mem_cons_self), ?_, ?_, rfl, List.mem_cons_self, ?_, fun l4 => ?_⟩⟩)
  · have lv : ∀ (L : List Int) (M : Mem), Paired (LV M) (L.map (fun v => SD.pu (.list ([v - 1, v, v + 1].map .int)))) (L.map (fun v => pints [v - 1, v, v + 1])) := by
      intro L M
      induction L with
      | nil => exact .nil
      | cons v L ih => exact .cons (by show LV M (.pu (.list ([v - 1, v, v + 1].map .int))) (pints [v - 1, v, v + 1]); rw [pints_pu]; exact .pu) ih
    exact lv L _
  · intro e
    have e := congrArg List.length e
    rw [List.length_map] at e
    simp at e
    rw [e] at h0
    exact absurd h0 (by decide)
  · have hs : ∀ L : List Int, (L.map (fun v => pints [v - 1, v, v + 1])).flatten.length = 3 * L.length := by
      intro L
      induction L with
      | nil => rfl
      | cons v L ih =>
        rw [List.map_cons, List.flatten_cons, List.length_append, ih]
        show 3 + 3 * L.length = 3 * (L.length + 1)
        omega
    rw [hs]
    omega
  obtain ⟨S, eS, lS⟩ : ∃ S : List Int, (L.map (fun v => pints [v - 1, v, v + 1])).flatten = pints S ∧ S.length = 3 * L.length := by
    have hs : ∀ L : List Int, ∃ S : List Int, (L.map (fun v => pints [v - 1, v, v + 1])).flatten = pints S ∧ S.length = 3 * L.length := by
      intro L
      induction L with
      | nil => exact ⟨[], rfl, rfl⟩
      | cons v L ih =>
        obtain ⟨S, e, l⟩ := ih
        refine ⟨[v - 1, v, v + 1] ++ S, ?_, ?_⟩
        · rw [List.map_cons, List.flatten_cons, e, pints_app]
        · rw [List.length_append, l]
          show 3 + 3 * L.length = 3 * (L.length + 1)
          omega
    exact hs L
  refine ⟨l4, _, S.map .int, _, rfl, rfl, eS.trans (pints_pu S), ?_⟩
  refine bcons (sset 2 scKeys.nd (gzn (gcat (gv 2 rfl (glc (.pair 4 5) (own := [("_law_one", 4), ("_law_other", 5)]) rfl scKeys.nd (blkOk_by (N := NKeys) (sc := defScope sKeys) (by decide +kernel)) (fun _ _ _ _ _ => pg_tup rfl (pgs_cons (pg_name (i := 4) scKeys.nd rfl (.inl rfl)) (pgs_cons (pg_name (i := 5) scKeys.nd rfl (.inl rfl)) pgs_nil))) (by decide) (igzip b.zip (gv 1 rfl ⟨_, rfl, gz (gsl (gv 1 rfl ?_))⟩)))))))
  change GE _ _ _ _ _
  refine gi ⟨1, rfl, ?_⟩
  change ∃ xs, LV _ _ xs ∧ _
  refine ⟨_, .pu, fun l => ⟨l, (L.drop 1).map .int, [], rfl, ?_, _, rfl, ?_⟩⟩
  · rw [cutL_map, cutL_map, cutL_1]
  have lz : min (L.map PyData.int).length ((L.drop 1).map PyData.int).length ≤ 64 := by
    rw [List.length_map]
    omega
  refine lc_map (fun i => .pu (.int ((L.getD i 0 + (L.drop 1).getD i 0) / 2))) (by omega) (fun i hi => ?_) fun l2 => ?_
  · have hi1 : i < (L.map PyData.int).length := Nat.lt_of_lt_of_le hi (Nat.min_le_left _ _)
    have hi2 : i < ((L.drop 1).map PyData.int).length := Nat.lt_of_lt_of_le hi (Nat.min_le_right _ _)
    rw [zpp_at hi1 hi2, List.getElem_map, List.getElem_map, ← G.getD_at (d := 0), ← G.getD_at (d := 0)]
    refine ⟨_, rfl, ?_⟩
    rintro Y ⟨s', H', C, cl, fp, rfl⟩
    exact gdiv (gadd (gv 4 rfl ⟨_, rfl, gv 5 rfl ⟨_, rfl, _, rfl, gi ⟨2, rfl, ⟨by decide, by decide⟩, rfl, rfl⟩⟩⟩))
  obtain ⟨A2, eA, lA⟩ : ∃ A2 : List Int, (List.range (min (L.map PyData.int).length ((L.drop 1).map PyData.int).length)).map (fun i => SD.pu (.int ((L.getD i 0 + (L.drop 1).getD i 0) / 2))) = pints A2 ∧ A2.length ≤ 64 :=
    ⟨(List.range (min (L.map PyData.int).length ((L.drop 1).map PyData.int).length)).map fun i => ((L.getD i 0 + (L.drop 1).getD i 0) / 2), by show _ = List.map _ (List.map _ _); rw [List.map_map]; rfl, by rw [List.length_map, List.length_range]; exact lz⟩
  rw [eA]
  refine ⟨_, _, .pu, .mem List.mem_cons_self, ?_, fun l3 => ?_⟩
  · rw [List.length_map, List.length_map, pints_len]
    omega
  refine ⟨l3, _, (S ++ A2).map .int, _, rfl, rfl, by rw [← pints_pu, ← pints_app, pints_pu], ?_⟩
  obtain ⟨L0, z, eL⟩ := snoc_ne h0
  have lo19 : (0 : Int) < 10 ^ (19 : Int).toNat := by decide
  have pw : ∀ {ρ : List SD} {M : Mem} {Q : Kn} {X : Cx} {p1 p2 p3 : Pos} {j1 j2 : Nat}, Q (.pu (.int (10 ^ (19 : Int).toNat))) M → GE X ρ M (.BinOp (.Constant (.int 10) j1 p1) .Pow (.Constant (.int 19) j2 p2) p3) Q := by
    intro ρ M Q X p1 p2 p3 j1 j2 h
    exact gpow (gi ⟨10, rfl, gi ⟨19, rfl, ⟨by decide, by decide, by decide⟩, h⟩⟩)
  refine bone (sret (gsortset rfl b.sorted b.set (gcat (gv 2 rfl (glst (acons (gsub (gix (gv 1 rfl (gi ⟨(0 : Nat), .pu (.int (L[0]'h0)), rfl, ?_, _, rfl, pw ⟨_, rfl, ?_⟩⟩))))))))))
  · exact .lst (atI_nat (j := 0) (by rw [List.getElem?_map, List.getElem?_eq_getElem h0]; rfl))
  refine acons (gadd (gix (gv 1 rfl (gneg (gi ⟨1, rfl, (-1 : Int), .pu (.int z), rfl, ?_, _, rfl, pw ⟨_, rfl, ?_⟩⟩)))))
  · rw [eL]
    exact .lst (atI_last PyData.int L0 z)
  refine anil ⟨le2, fun l5 => ⟨_, pints [L[0]'h0 - 10 ^ (19 : Int).toNat, z + 10 ^ (19 : Int).toNat], .pu, .mem List.mem_cons_self, ?_, fun l6 => ⟨(S ++ A2) ++ [L[0]'h0 - 10 ^ (19 : Int).toNat, z + 10 ^ (19 : Int).toNat], ?_, ?_, fun l7 ks u1 u2 u3 => q l7 ks _ ?_⟩⟩⟩
  · rw [List.length_map, List.length_map, List.length_append, pints_len]
    show _ + 2 ≤ _
    omega
  · rw [← pints_pu, ← pints_app]
    exact .mem List.mem_cons_self
  · rw [List.length_append, List.length_append]
    show _ + 2 ≤ _
    omega
  refine ⟨u1, ⟨_, (u2 _).mpr (List.mem_append_right _ List.mem_cons_self), fun v hv => ?_⟩, ⟨_, (u2 _).mpr (List.mem_append_right _ (List.mem_cons_of_mem _ List.mem_cons_self)), fun v hv => ?_⟩, ?_⟩
  · have hv := (hm v).mpr hv
    obtain ⟨i, hi, e⟩ := List.mem_iff_getElem.mp hv
    have : L[0]'h0 ≤ v := by
      by_cases h : i = 0
      · subst h
        omega
      · have := up2 (i := 0) (j := i) (by omega) hi
        omega
    omega
  · have hv := (hm v).mpr hv
    rw [eL] at hv up
    have := pairwise_last up v hv
    omega
  · rw [List.length_append, List.length_append] at u3
    have u3 : ks.length ≤ S.length + A2.length + 2 := u3
    omega
end
end K01

namespace K01
open PySem PySem.Spec PyProof.Rows L2 G
abbrev sWayUp : Stmt := topS 25
abbrev sw (p : Nat × Nat) : Nat × Nat := (p.2, p.1)
theorem val_turn {T : Tab} {n i j : Nat} (hi : i < n) (hj : j < T.length) : val (turn T n) i j = val T j i := by
  unfold val turn
  have h1 : i < ((List.range n).map fun j => T.map fun r => r.getD j 0).length := by rw [List.length_map, List.length_range]; exact hi
  rw [G.getD_at h1, List.getElem_map, List.getElem_range]
  have h2 : j < (T.map fun r => r.getD i 0).length := by rw [List.length_map]; exact hj
  rw [G.getD_at h2, List.getElem_map, G.getD_at hj]
section
variable {P : Program} {w : World} {K : PySem.W.Frag} {mg : Str → Option Value} {base : Heap} {f : Addr} {fd : FuncData} {k : Nat}
abbrev NWayUp : List Str := ["_law_net", "_law_a_key", "_law_told", "_law_x", "_law_y"]
theorem scWayUp : FnScope NWayUp ["_law_net", "_law_a_key"] (defScope sWayUp) := ⟨rfl, rfl, rfl, by decide +kernel, rfl, by decide +kernel, by decide +kernel⟩
def WuAt (T : Tab) (n : Nat) (key : Int) (fu : Nat) (ρ : List SD) (M : Mem) : Prop := ∃ (i c : Nat) (L : List (Nat × Nat)) (l : Addr),
  ρ = [.pu (tab T), .pu (.int key), .rf (.ref l), .pu (.int ((c : Int) - 1)), .pu (.int i)] ∧ M = [(l, .lst ((L.map sw).map pld))] ∧ i ≤ n ∧ c ≤ T.length ∧ (n - i) + c ≤ fu ∧ L.length + fu = n + T.length ∧ L ++ (go (turn T n) key fu i c).1 = (run (turn T n) T.length key).1 ∧ (go (turn T n) key fu i c).2 = (run (turn T n) T.length key).2
def WuEnd (T : Tab) (n : Nat) (key : Int) (ρ : List SD) (M : Mem) : Prop := ∃ (l : Addr), ρ = [.pu (tab T), .pu (.int key), .rf (.ref l), .pu (.int (run (turn T n) T.length key).2.2), .pu (.int (run (turn T n) T.length key).2.1)] ∧ M = [(l, .lst ((backL T n key).map pld))]
def SWayUp : GSpec := fun rs M Kk => ∃ T n key, IsTab T n ∧ rs = [.pu (tab T), .pu (.int key)] ∧ M = [] ∧ ∀ M', Kk (.pu (.tuple [.list ((backL T n key).map plD), enD ((run (turn T n) T.length key).2.2, (run (turn T n) T.length key).2.1)])) M'
theorem wayUp_mono : ∀ rs M Kk Kk', SWayUp rs M Kk → (∀ r M', Kk r M' → Kk' r M') → SWayUp rs M Kk' := fun rs M Kk Kk' ⟨T, n, key, t, e, m, q⟩ h => ⟨T, n, key, t, e, m, fun M' => h _ _ (q M')⟩
theorem fWayUp (F : Fun K "_law_way_up" "_law_way_up" sWayUp f fd) (b : Bl mg) : FnG P w K mg base (k + 1) f fd ["_law_net", "_law_a_key"] SWayUp := by
  refine fnG F scWayUp (fun rs M Kk ⟨T, n, key, t, e, _⟩ => by rw [e]; rfl) fun cdv A outer s0 H hgd hr rs M Kk hS => ?_
  obtain ⟨T, n, key, t, rfl, rfl, q⟩ := hS
  have give : ∀ ρ' M', WuEnd T n key ρ' M' → ∀ {p1 p2 p3 p4 p5 : Pos} {z1 z2 : Nat}, GE (bodyX P w K mg base NWayUp "_law_way_up" sWayUp f cdv A outer s0 H) ρ' M' (.Tuple [.Name "_law_told" p1, .Tuple [.Name "_law_x" p2, .Name "_law_y" p3] z1 p4] z2 p5) (bodyD Kk).rt := by
    rintro ρ' M' ⟨l, rfl, rfl⟩ p1 p2 p3 p4 p5 z1 z2
    rw [pld_map]
    exact gtup (acons (gz (gv 2 rfl ⟨l, (backL T n key).map plD, [], rfl, rfl, acons (gtup (acons (gv 3 rfl (acons (gv 4 rfl (anil ⟨[.int _, .int _], rfl, le2, anil ⟨[.list ((backL T n key).map plD), enD _], rfl, le2, q _⟩⟩))))))⟩)))
  have hT0 := t.pos
  refine bcons (sset 2 scWayUp.nd (glst (anil ⟨Nat.zero_le _, fun l => ?_⟩)))
  refine bcons (sset 3 scWayUp.nd (gsub (glen b.len (gv 0 rfl ⟨_, tab_len, _, rfl, gi ⟨1, rfl, ?_⟩⟩))))
  refine bcons (sset 4 scWayUp.nd (gi ?_))
  have er : run (turn T n) T.length key = go (turn T n) key (n + T.length) 0 T.length := by
    unfold G.run
    rw [turn_len]
  refine bseq (WuEnd T n key) (swhile PassesOwn.never (WuAt T n key) (n + T.length) ⟨0, T.length, [], l, rfl, rfl, Nat.zero_le _, Nat.le_refl _, by omega, by simp, by rw [er]; rfl, by rw [er]⟩ fun fu ρ' M' h => ?_) fun ρ' M' h => bone (sret (give ρ' M' h))
  obtain ⟨i, c, L, l, rfl, rfl, hi, hc, hf, hL, e1, e2⟩ := h
  refine tand (tge (gv 3 rfl ⟨_, rfl, gi ⟨0, rfl, ?_⟩⟩))
  have done : ¬ (i < n ∧ 0 < c) → WuEnd T n key [.pu (tab T), .pu (.int key), .rf (.ref l), .pu (.int ((c : Int) - 1)), .pu (.int i)] [(l, .lst ((L.map sw).map pld))] := fun hn => by
    have g : go (turn T n) key fu i c = ([], ((i : Int), (c : Int) - 1)) := by
      cases fu with
      | zero => rfl
      | succ fu =>
        unfold go
        rw [turn_len, if_neg hn]
    rw [g] at e1 e2
    simp only [List.append_nil] at e1
    exact ⟨l, by rw [← e2], by unfold backL; rw [← e1]⟩
  refine iteB (fun h => ?_) fun h => done ?_
  · refine tlt (gv 4 rfl ⟨_, rfl, glen b.len (gix (gv 0 rfl (gi ⟨((0 : Nat) : Int), _, rfl, tab_ix t.pos, _, row_len, _, rfl, ?_⟩)))⟩)
    rw [t.row t.pos]
    refine iteB (fun h2 => ?_) fun h2 => done ?_
    · have h1 : i < n := by simpa using h2
      have h3 : 0 < c := by
        have := of_decide_eq_true h
        omega
      obtain ⟨fu, rfl⟩ : ∃ f', fu = f' + 1 := ⟨fu - 1, by omega⟩
      have hj : c - 1 < T.length := by omega
      have hcc : (c : Int) - 1 = ((c - 1 : Nat) : Int) := by omega
      have g : go (turn T n) key (fu + 1) i c = if val (turn T n) i (c - 1) = key then ([(i, c - 1)], ((i : Int), (c : Int) - 1)) else if val (turn T n) i (c - 1) < key then ((i, c - 1) :: (go (turn T n) key fu (i + 1) c).1, (go (turn T n) key fu (i + 1) c).2) else ((i, c - 1) :: (go (turn T n) key fu i (c - 1)).1, (go (turn T n) key fu i (c - 1)).2) := by
        show (if i < (turn T n).length ∧ 0 < c then _ else _) = _
        rw [turn_len, if_pos ⟨h1, h3⟩]
      rw [g, val_turn h1 hj] at e1 e2
      have h8 := t.le
      have h9 := t.nle
      rw [hcc] at e1 e2 ⊢
      refine bcons (sexpr (gapp (gv 2 rfl ⟨l, _, rfl, List.mem_cons_self, gtup (acons (gv 3 rfl (acons (gv 4 rfl (anil ⟨[.int ((c - 1 : Nat) : Int), .int i], rfl, le2, (L.map sw).map pld, [], [], rfl, ?_, ?_⟩)))))⟩)))
      · rw [List.length_map, List.length_map]
        omega
      have ap : ∀ (p : Nat × Nat), (L.map sw).map pld ++ [pld (sw p)] = ((L ++ [p]).map sw).map pld := fun p => by
        rw [List.map_append, List.map_append]
        rfl
      refine bcons (sif (teqI (gix (gix (gv 0 rfl (gv 3 rfl ⟨((c - 1 : Nat) : Int), _, rfl, tab_ix hj, gv 4 rfl ⟨(i : Nat), _, rfl, val_ix t hj h1, _, rfl, gv 1 rfl ⟨_, rfl, iteB (fun hv => bone (sret (give _ _ ?_))) fun hv => bnil (bone (sif (tlt (gix (gix (gv 0 rfl (gv 3 rfl ⟨((c - 1 : Nat) : Int), _, rfl, tab_ix hj, gv 4 rfl ⟨(i : Nat), _, rfl, val_ix t hj h1, _, rfl, gv 1 rfl ⟨_, rfl, iteB (fun hv2 => bone ?_) fun hv2 => bone ?_⟩⟩⟩)))))))⟩⟩⟩))))))
      · rw [if_pos (of_decide_eq_true hv)] at e1 e2
        refine ⟨l, ?_, ?_⟩
        · rw [← e2]
        · unfold backL
          rw [← e1]
          exact congrArg (fun xs => [(l, MO.lst xs)]) (ap (i, c - 1))
      · have hv := of_decide_eq_false hv
        rw [if_neg hv, if_pos (of_decide_eq_true hv2)] at e1 e2
        refine sset 4 scWayUp.nd (gadd (gv 4 rfl ⟨_, rfl, gi ⟨1, rfl, fu, Nat.lt_succ_self fu, i + 1, c, L ++ [(i, c - 1)], l, ?_, ?_, by omega, hc, by omega, ?_, ?_, e2⟩⟩))
        · rw [hcc]
          rfl
        · exact congrArg (fun xs => [(l, MO.lst xs)]) (ap (i, c - 1))
        · rw [List.length_append, List.length_singleton]
          omega
        · rw [← e1, List.append_assoc]
          rfl
      · have hv := of_decide_eq_false hv
        rw [if_neg hv, if_neg (of_decide_eq_false hv2)] at e1 e2
        refine sset 3 scWayUp.nd (gsub (gv 3 rfl ⟨_, rfl, gi ⟨1, rfl, fu, Nat.lt_succ_self fu, i, c - 1, L ++ [(i, c - 1)], l, rfl, ?_, hi, by omega, by omega, ?_, ?_, e2⟩⟩))
        · exact congrArg (fun xs => [(l, MO.lst xs)]) (ap (i, c - 1))
        · rw [List.length_append, List.length_singleton]
          omega
        · rw [← e1, List.append_assoc]
          rfl
    · have := of_decide_eq_false h2
      omega
  · have := of_decide_eq_false h
    omega
end
end K01

namespace K01
open PySem PySem.Spec PyProof.Rows L2 G
abbrev sRight : Stmt := topS 26
theorem go_bd (T : Tab) (k : Int) (n : Nat) : ∀ (f i c : Nat), i ≤ T.length → c ≤ n → (∀ p ∈ (go T k f i c).1, p.1 ≤ T.length ∧ p.2 ≤ n) ∧ ((go T k f i c).2.1.natAbs ≤ T.length ∧ (go T k f i c).2.2.natAbs ≤ n + 1)
  | 0, i, c, hi, hc => ⟨fun p hp => absurd hp List.not_mem_nil, by show (i : Int).natAbs ≤ _; omega, by show ((c : Int) - 1).natAbs ≤ _; omega⟩
  | f + 1, i, c, hi, hc => by
    unfold go
    split
    · next h =>
      have one : ∀ p ∈ [(i, c - 1)], p.1 ≤ T.length ∧ p.2 ≤ n := fun p hp => by
        rw [List.mem_singleton.mp hp]
        exact ⟨hi, by show c - 1 ≤ n; omega⟩
      split
      · exact ⟨one, by show (i : Int).natAbs ≤ _; omega, by show ((c : Int) - 1).natAbs ≤ _; omega⟩
      split
      · obtain ⟨h1, h2⟩ := go_bd T k n f (i + 1) c (by omega) hc
        exact ⟨fun p hp => (List.mem_cons.mp hp).elim (fun e => one p (List.mem_singleton.mpr e)) (h1 p), h2⟩
      · obtain ⟨h1, h2⟩ := go_bd T k n f i (c - 1) hi (by omega)
        exact ⟨fun p hp => (List.mem_cons.mp hp).elim (fun e => one p (List.mem_singleton.mpr e)) (h1 p), h2⟩
    · exact ⟨fun p hp => absurd hp List.not_mem_nil, by show (i : Int).natAbs ≤ _; omega, by show ((c : Int) - 1).natAbs ≤ _; omega⟩
theorem gd_path {T : Tab} {n : Nat} (t : IsTab T n) (k : Int) : Gd 2 25792 (.list ((run T n k).1.map plD)) ∧ Gd 1 402 (enD (run T n k).2) := by
  have h8 := t.le
  have h9 := t.nle
  obtain ⟨h1, h2, h3⟩ := go_bd T k n (T.length + n) 0 n (Nat.zero_le _) (Nat.le_refl _)
  have hl := go_len T k (T.length + n) 0 n
  refine ⟨gd_pls (fun p hp => ?_) ?_, gd_en ?_ ?_⟩
  · have := h1 p hp
    omega
  · show (go T k (T.length + n) 0 n).1.length ≤ 64
    omega
  · show (go T k (T.length + n) 0 n).2.1.natAbs < 10 ^ 60
    exact Nat.lt_of_le_of_lt (show _ ≤ 1000 by omega) (by decide)
  · show (go T k (T.length + n) 0 n).2.2.natAbs < 10 ^ 60
    exact Nat.lt_of_le_of_lt (show _ ≤ 1000 by omega) (by decide)
theorem gd_back {T : Tab} {n : Nat} (t : IsTab T n) (k : Int) : Gd 2 25792 (.list ((backL T n k).map plD)) ∧ Gd 1 402 (enD ((run (turn T n) T.length k).2.2, (run (turn T n) T.length k).2.1)) := by
  have h8 := t.le
  have h9 := t.nle
  have t' := turn_is t
  obtain ⟨h1, h2, h3⟩ := go_bd (turn T n) k T.length ((turn T n).length + T.length) 0 T.length (Nat.zero_le _) (Nat.le_refl _)
  have hl := go_len (turn T n) k ((turn T n).length + T.length) 0 T.length
  rw [turn_len] at h1 h2 h3 hl
  have er : run (turn T n) T.length k = go (turn T n) k (n + T.length) 0 T.length := by
    unfold G.run
    rw [turn_len]
  refine ⟨gd_pls (fun p hp => ?_) ?_, gd_en ?_ ?_⟩
  · unfold backL at hp
    rw [er] at hp
    obtain ⟨q, hq, rfl⟩ := List.mem_map.mp hp
    have := h1 q hq
    exact ⟨by show q.2 ≤ 8; omega, by show q.1 ≤ 8; omega⟩
  · unfold backL
    rw [List.length_map, er]
    omega
  · show (run (turn T n) T.length k).2.2.natAbs < 10 ^ 60
    rw [er]
    exact Nat.lt_of_le_of_lt (show _ ≤ 1000 by omega) (by decide)
  · show (run (turn T n) T.length k).2.1.natAbs < 10 ^ 60
    rw [er]
    exact Nat.lt_of_le_of_lt (show _ ≤ 1000 by omega) (by decide)
theorem gd_four {k w : Nat} {a b c d : PyData} (ha : Gd k w a) (hb : Gd k w b) (hc : Gd k w c) (hd : Gd k w d) : Gd (k + 1) (4 * (w + 1)) (.list [a, b, c, d]) := gd_list (n := 4) (fun e he => by
  simp only [List.mem_cons, List.not_mem_nil, or_false] at he
  rcases he with rfl | rfl | rfl | rfl
  · exact ha
  · exact hb
  · exact hc
  · exact hd) (Nat.le_refl 4)
theorem md_path {M : Mem} {l : Addr} {L : List (Nat × Nat)} (h : (l, MO.lst (L.map pld)) ∈ M) : MD M (.rf (.ref l)) (.list (L.map plD)) := md_lst (by rw [← pld_map]; exact h)
theorem ne_self {x : Str} : (!decide (x = x)) = false := by simp
section
variable {P : Program} {w : World} {K : PySem.W.Frag} {mg : Str → Option Value} {base : Heap} {f : Addr} {fd : FuncData} {k : Nat}
theorem kw_path (f : Addr) (fd : FuncData) (F : Fun K "path" "path" sPath f fd) : KwB K fd ["table", "key"] ["key", "table"] (fun l => swp l) := by
  obtain ⟨oc, od, kV, doc, pm, an, cdv, ct, osl, rfl, lk, hcd⟩ := F.ex
  exact ⟨fun s ws _ hl => match ws, hl with | [_, _], _ => .of_eq rfl, fun hl h => swp_rel hl h⟩
theorem kw_end (f : Addr) (fd : FuncData) (F : Fun K "end" "end" sEnd f fd) : KwB K fd ["table", "key"] ["key", "table"] (fun l => swp l) := by
  obtain ⟨oc, od, kV, doc, pm, an, cdv, ct, osl, rfl, lk, hcd⟩ := F.ex
  exact ⟨fun s ws _ hl => match ws, hl with | [_, _], _ => .of_eq rfl, fun hl h => swp_rel hl h⟩
theorem kw_pathB (f : Addr) (fd : FuncData) (F : Fun K "path_from_below" "path_from_below" sPathB f fd) : KwB K fd ["table", "key"] ["key", "table"] (fun l => swp l) := by
  obtain ⟨oc, od, kV, doc, pm, an, cdv, ct, osl, rfl, lk, hcd⟩ := F.ex
  exact ⟨fun s ws _ hl => match ws, hl with | [_, _], _ => .of_eq rfl, fun hl h => swp_rel hl h⟩
theorem kw_endB (f : Addr) (fd : FuncData) (F : Fun K "end_from_below" "end_from_below" sEndB f fd) : KwB K fd ["table", "key"] ["key", "table"] (fun l => swp l) := by
  obtain ⟨oc, od, kV, doc, pm, an, cdv, ct, osl, rfl, lk, hcd⟩ := F.ex
  exact ⟨fun s ws _ hl => match ws, hl with | [_, _], _ => .of_eq rfl, fun hl h => swp_rel hl h⟩
theorem end_mono : ∀ rs M Kk Kk', SEnd rs M Kk → (∀ r M', Kk r M' → Kk' r M') → SEnd rs M Kk' := fun rs M Kk Kk' ⟨T, n, key, t, e, m, q⟩ h => ⟨T, n, key, t, e, m, fun M' => h _ _ (q M')⟩
theorem endB_mono : ∀ rs M Kk Kk', SEndB rs M Kk → (∀ r M', Kk r M' → Kk' r M') → SEndB rs M Kk' := fun rs M Kk Kk' ⟨T, n, key, t, e, m, q⟩ h => ⟨T, n, key, t, e, m, fun M' => h _ _ (q M')⟩
theorem way_mono : ∀ rs M Kk Kk', SWalk rs M Kk → (∀ r M', Kk r M' → Kk' r M') → SWalk rs M Kk' := fun rs M Kk Kk' ⟨T, n, key, t, e, m, q⟩ h => ⟨T, n, key, t, e, m, fun M' => h _ _ (q M')⟩
abbrev NRi : List Str := ["_law_net", "_law_before", "_law_a_key", "_law_due", "_law_stop", "_law_told", "_law_ends", "_law_both"]
theorem scRi : FnScope NRi ["_law_net"] (defScope sRight) := ⟨rfl, rfl, rfl, by decide +kernel, rfl, by decide +kernel, by decide +kernel⟩
def SRi : GSpec := fun rs M Kk => ∃ T n, IsTab T n ∧ VB T.flatten ∧ rs = [.pu (tab T)] ∧ M = [] ∧ ∀ M', Kk (.pu (.bool true)) M'
theorem fRi (F : Fun K "_law_right" "_law_right" sRight f fd) (b : Bl mg) (CKe : Cal P w K mg base k "_law_keys" sKeys ["_law_net"] SKeys) (CW : Cal P w K mg base k "_law_way" sWay ["_law_net", "_law_a_key"] SWalk) (CU : Cal P w K mg base k "_law_way_up" sWayUp ["_law_net", "_law_a_key"] SWayUp)
    (CP : Cal P w K mg base k "path" sPath ["table", "key"] SPath) (CE : Cal P w K mg base k "end" sEnd ["table", "key"] SEnd) (CPB : Cal P w K mg base k "path_from_below" sPathB ["table", "key"] SPathB) (CEB : Cal P w K mg base k "end_from_below" sEndB ["table", "key"] SEndB) : FnG P w K mg base (k + 1) f fd ["_law_net"] SRi := by
  refine fnG F scRi (fun rs M Kk ⟨T, n, _, _, e, _⟩ => by rw [e]; rfl) fun cdv A outer s0 H hgd hr rs M Kk hS => ?_
  obtain ⟨T, n, t, vb, rfl, rfl, q⟩ := hS
  have hu64 : A.units + 3 + 64 < cLine := by
    have z : A.units + 3 + 16 * k + 200 < cLine := hr.un
    omega
  have shT := shows_tab t vb
  refine bcons (sset 1 scRi.nd (grepr hgd hu64 b.repr (gv 0 rfl ⟨tab T, .pu _, shT, ?_⟩)))
  refine bseq (fun ρ' M' => ∃ z2 z3 z4 z5 z6 z7, ρ' = [.pu (tab T), .pu (.str (tab T).shown), z2, z3, z4, z5, z6, z7]) ?_ fun ρ' M' h => ?_
  · refine sfor PassesOwn.never rfl (igmem (gcalP CKe hgd hr (acons (gv 0 rfl (anil ⟨T, n, t, rfl, rfl, fun l ks M' ko => ⟨l, pints ks, _, rfl, rfl, ?_⟩⟩)))))
    refine ⟨fun i ρ' M' => ∃ z2 z3 z4 z5 z6 z7, ρ' = [.pu (tab T), .pu (.str (tab T).shown), z2, z3, z4, z5, z6, z7], ⟨_, _, _, _, _, _, rfl⟩, fun i ρ' M' hi h => ?_, fun ρ' M' h => h⟩
    obtain ⟨z2, z3, z4, z5, z6, z7, rfl⟩ := h
    have hi2 : i < ks.length := by rw [List.length_map] at hi; exact hi
    have ei : (pints ks).getD i .un = .pu (.int ks[i]) := by rw [G.getD_at hi, List.getElem_map]
    dsimp only
    rw [ei]
    generalize ks[i] = key
    refine tgname 2 (gbforget (List.nil_sublist _) ?_) scRi.nd
    obtain ⟨gp, ge⟩ := gd_path t key
    obtain ⟨gb, gbe⟩ := gd_back t key
    refine bcons (sasg (gcalD way_mono CW hgd hr (acons (gv 0 rfl (acons (gv 2 rfl (anil ⟨T, n, key, t, rfl, rfl, fun _ => ?_⟩)))))))
    refine tgtup rfl rfl (tgscons (tgname 3 (tgscons (tgname 4 (tgsnil ?_) scRi.nd)) scRi.nd))
    refine bcons (sset 5 scRi.nd (glst (acons (gcalP CP hgd hr (acons (gv 0 rfl (acons (gv 2 rfl (anil ⟨T, n, key, t, rfl, rfl, fun l1 => ?_⟩)))))))))
    refine acons (gcalK CP hgd hr kw_path (kcons (gv 2 rfl (kcons (gv 0 rfl (knil ⟨rfl, T, n, key, t, rfl, rfl, fun l2 => anil ⟨le2, fun lt => ?_⟩⟩))))))
    refine bcons (sif (tneS (grepr hgd hu64 b.repr (gv 5 rfl ⟨.list [.list ((run T n key).1.map plD), .list ((run T n key).1.map plD)], .mem List.mem_cons_self (.cons (md_path (List.mem_cons_of_mem _ (List.mem_cons_of_mem _ List.mem_cons_self))) (.cons (md_path (List.mem_cons_of_mem _ List.mem_cons_self)) .nil)), shows_two gp (by decide) (by decide), _, rfl, ?_⟩))))
    refine grepr hgd hu64 b.repr (glst (acons (gv 3 rfl (acons (gv 3 rfl (anil ⟨le2, fun l3 => ⟨_, LV.md (ds := [.list ((run T n key).1.map plD), .list ((run T n key).1.map plD)]) (.mem List.mem_cons_self), shows_two gp (by decide) (by decide), _, rfl, iteN ne_self (bnil ?_)⟩⟩))))))
    refine gbforget (List.sublist_cons_self _ _) ?_
    have hl := run_len T n key
    have h8 := t.le
    have h9 := t.nle
    refine bcons (sexpr (gapp (gix (gv 5 rfl (gi ⟨((0 : Nat) : Int), .rf (.ref l1), rfl, .mem List.mem_cons_self (atI_nat (j := 0) rfl), l1, (run T n key).1.map pld, rfl, List.mem_cons_of_mem _ (List.mem_cons_of_mem _ List.mem_cons_self), gnon ⟨(run T n key).1.map pld, [(lt, .lst [.rf (.ref l1), .rf (.ref l2)]), (l2, .lst ((run T n key).1.map pld))], [], rfl, ?_, ?_⟩⟩)))))
    · rw [List.length_map]
      omega
    refine gbforget (List.nil_sublist _) ?_
    refine bcons (sset 6 scRi.nd (glst (acons (gcalD end_mono CE hgd hr (acons (gv 0 rfl (acons (gv 2 rfl (anil ⟨T, n, key, t, rfl, rfl, fun _ => ?_⟩)))))))))
    refine acons (gf (gcalK CE hgd hr kw_end (kcons (gv 2 rfl (kcons (gv 0 rfl (knil ⟨rfl, T, n, key, t, rfl, rfl, fun _ => ⟨[], List.nil_sublist _, anil ⟨le2, fun le => ?_⟩⟩⟩)))))))
    refine bcons (sif (tor (tneS (grepr hgd hu64 b.repr (gcalP CP hgd hr (acons (gv 0 rfl (acons (gv 2 rfl (anil ⟨T, n, key, t, rfl, rfl, fun l4 => ⟨.list ((run T n key).1.map plD), md_path List.mem_cons_self, gp.shows (by decide) (by decide), _, rfl, ?_⟩⟩))))))))))
    refine grepr hgd hu64 b.repr (gv 3 rfl ⟨_, .pu _, gp.shows (by decide) (by decide), _, rfl, iteN ne_self ?_⟩)
    refine tneS (grepr hgd hu64 b.repr (gv 6 rfl ⟨_, LV.md (ds := [enD (run T n key).2, enD (run T n key).2]) (.mem (List.mem_cons_of_mem _ List.mem_cons_self)), shows_two ge (by decide) (by decide), _, rfl, ?_⟩))
    refine grepr hgd hu64 b.repr (glst (acons (gv 4 rfl (acons (gv 4 rfl (anil ⟨le2, fun l3 => ⟨_, LV.md (ds := [enD (run T n key).2, enD (run T n key).2]) (.mem List.mem_cons_self), shows_two ge (by decide) (by decide), _, rfl, iteN ne_self (bnil ?_)⟩⟩))))))
    refine gbforget (List.nil_sublist _) ?_
    refine bcons (sasg (gcalD wayUp_mono CU hgd hr (acons (gv 0 rfl (acons (gv 2 rfl (anil ⟨T, n, key, t, rfl, rfl, fun _ => ?_⟩)))))))
    refine tgtup rfl rfl (tgscons (tgname 3 (tgscons (tgname 4 (tgsnil ?_) scRi.nd)) scRi.nd))
    refine bcons (sset 5 scRi.nd (glst (acons (gcalP CPB hgd hr (acons (gv 0 rfl (acons (gv 2 rfl (anil ⟨T, n, key, t, rfl, rfl, fun l1 => ?_⟩)))))))))
    refine acons (gcalK CPB hgd hr kw_pathB (kcons (gv 2 rfl (kcons (gv 0 rfl (knil ⟨rfl, T, n, key, t, rfl, rfl, fun l2 => anil ⟨le2, fun lt => ?_⟩⟩))))))
    refine bcons (sset 7 scRi.nd (glst (acons (gcalD endB_mono CEB hgd hr (acons (gv 0 rfl (acons (gv 2 rfl (anil ⟨T, n, key, t, rfl, rfl, fun _ => ?_⟩)))))))))
    refine acons (gf (gcalK CEB hgd hr kw_endB (kcons (gv 2 rfl (kcons (gv 0 rfl (knil ⟨rfl, T, n, key, t, rfl, rfl, fun _ => ⟨_, List.sublist_append_right _ _, anil ⟨le2, fun le => ?_⟩⟩⟩)))))))
    have gbe2 : Gd 2 25792 _ := gbe.up (by decide) (by decide)
    have g4 := gd_four gb gb gbe2 gbe2
    generalize hP : PyData.list ((backL T n key).map plD) = Pd at gb g4 ⊢
    have mp : ∀ {M : Mem} {l : Addr}, (l, MO.lst ((backL T n key).map pld)) ∈ M → MD M (.rf (.ref l)) Pd := fun h => by rw [← hP]; exact md_path h
    generalize enD ((run (turn T n) T.length key).2.2, (run (turn T n) T.length key).2.1) = Ed at gbe2 g4 ⊢
    refine bcons (sif (tor (tneS (grepr hgd hu64 b.repr (gcat (gv 5 rfl (gv 7 rfl ⟨_, _, .mem (List.mem_cons_of_mem _ List.mem_cons_self), .mem List.mem_cons_self, show 2 + 2 ≤ 100000 by decide, fun l => ⟨.list [Pd, Pd, Ed, Ed], .mem List.mem_cons_self (.cons (mp (by simp)) (.cons (mp (by simp)) (.cons (.pu _) (.cons (.pu _) .nil)))), g4.shows (by decide) (by decide), _, rfl, ?_⟩⟩)))))))
    refine grepr hgd hu64 b.repr (glst (acons (gv 3 rfl (acons (gv 3 rfl (acons (gv 4 rfl (acons (gv 4 rfl (anil ⟨show 4 ≤ 100000 by decide, fun l3 => ⟨_, LV.md (ds := [Pd, Pd, Ed, Ed]) (.mem List.mem_cons_self), g4.shows (by decide) (by decide), _, rfl, iteN ne_self ?_⟩⟩))))))))))
    refine tneS (grepr hgd hu64 b.repr (gv 0 rfl ⟨tab T, .pu _, shT, _, rfl, gv 1 rfl ⟨_, rfl, iteN ne_self (bnil ?_)⟩⟩))
    refine gbforget ((List.sublist_cons_self _ _).trans ((List.sublist_cons_self _ _).trans (List.sublist_cons_self _ _))) ?_
    have hlb : ((backL T n key).map pld).length < 100000 := by
      have hl := run_len (turn T n) T.length key
      rw [turn_len] at hl
      unfold backL
      rw [List.length_map, List.length_map]
      omega
    refine bcons (sexpr (gapp (gix (gv 5 rfl (gi ⟨((0 : Nat) : Int), .rf (.ref l1), rfl, .mem List.mem_cons_self (atI_nat (j := 0) rfl), l1, (backL T n key).map pld, rfl, List.mem_cons_of_mem _ (List.mem_cons_of_mem _ List.mem_cons_self), gnon ⟨(backL T n key).map pld, [(lt, .lst [.rf (.ref l1), .rf (.ref l2)]), (l2, .lst ((backL T n key).map pld))], [], rfl, hlb, ?_⟩⟩)))))
    refine gbforget (List.nil_sublist _) ?_
    refine bone (sif (tneS (grepr hgd hu64 b.repr (gcalP CPB hgd hr (acons (gv 0 rfl (acons (gv 2 rfl (anil ⟨T, n, key, t, rfl, rfl, fun l4 => ⟨Pd, mp List.mem_cons_self, gb.shows (by decide) (by decide), _, rfl, ?_⟩⟩)))))))))
    exact grepr hgd hu64 b.repr (gv 3 rfl ⟨_, .pu _, gb.shows (by decide) (by decide), _, rfl, iteN ne_self (bnil ⟨_, _, _, _, _, _, rfl⟩)⟩)
  obtain ⟨z2, z3, z4, z5, z6, z7, rfl⟩ := h
  refine bone (sret (geqS (grepr hgd hu64 b.repr (gv 0 rfl ⟨tab T, .pu _, shT, _, rfl, gv 1 rfl ⟨_, rfl, ?_⟩⟩))))
  show Kk (.pu (.bool (decide ((tab T).shown = (tab T).shown)))) _
  rw [decide_eq_true rfl]
  exact q _
end
end K01

namespace G
open PySem PySem.Spec PyProof.Rows L2
/-! ### what a number's text is -/
theorem tl_sh (i : Int) : TL.tl (sh i) = if i < 0 then 45 :: TL.numL i.natAbs else TL.numL i.natAbs := by
  cases i with
  | ofNat n =>
    have z : ¬ ((Int.ofNat n) < 0) := by simp
    rw [if_neg z]
    exact TL.tl_num n
  | negSucc n =>
    have z : Int.negSucc n < 0 := Int.negSucc_lt_zero n
    rw [if_pos z]
    have e1 : toString (Int.negSucc n) = "-" ++ toString (((n + 1 : Nat) : Int)) := rfl
    have e2 : TL.tl (Str.ofString (toString (((n + 1 : Nat) : Int)))) = TL.numL (n + 1) := TL.tl_num (n + 1)
    show TL.tl (Str.ofString (toString (Int.negSucc n))) = 45 :: TL.numL (n + 1)
    rw [TL.tl_ofString] at e2 ⊢
    rw [e1, String.toList_append, List.map_append, e2]
    rfl
theorem sh_small {i : Int} (h : i.natAbs ≤ 10 ^ 40) : (TL.numL i.natAbs).length ≤ 41 := TL.numL_len (by decide) (Nat.lt_of_le_of_lt h (by decide))
theorem sh_len {i : Int} (h : i.natAbs ≤ 10 ^ 40) : (sh i).length ≤ 42 := by
  have := sh_small h
  rw [TL.len_tl, tl_sh]
  split
  · rw [List.length_cons]
    omega
  · omega
theorem sh_free {i : Int} {s : Nat} (h : s < 45) : s ∉ TL.tl (sh i) := by
  rw [tl_sh]
  have z : s ∉ TL.numL i.natAbs := TL.numL_free (.inl (by omega))
  split
  · intro hm
    rcases List.mem_cons.mp hm with e | e
    · omega
    · exact z e
  · exact z
theorem int_sh {i : Int} (h : i.natAbs ≤ 10 ^ 40) : PySem.intText? (sh i) = some i := by
  have l := sh_small h
  cases i with
  | ofNat n => exact TL.int_num (Nat.le_trans l (by decide))
  | negSucc n =>
    have e : (sh (Int.negSucc n)).cps.toList = 45 :: TL.numL (n + 1) := by
      have z := tl_sh (Int.negSucc n)
      rw [if_pos (Int.negSucc_lt_zero n)] at z
      exact z
    have r := PySem.intText_neg e (TL.numL_digits _) (TL.numL_ne _) (Nat.le_trans (sh_len h) (by decide))
    rw [r, TL.numL_val]
    rfl
theorem sh_log {i : Int} (h : i.natAbs ≤ 10 ^ 40) : i.natAbs.log2 < 1920 := by
  by_cases z : i.natAbs = 0
  · rw [z]; decide
  · exact Nat.lt_trans ((Nat.log2_lt z).2 (Nat.lt_of_le_of_lt h (by decide : 10 ^ 40 < 2 ^ 200))) (by decide)
theorem starts_one {x y : Str} {c : Nat} (hy : TL.tl y = [c]) : Txt.startswith x y = decide ((TL.tl x).head? = some c) := by
  have ly : y.length = 1 := by rw [TL.len_tl, hy]; rfl
  have ey : y.cps = #[c] := by
    apply Array.toList_inj.mp
    exact hy
  unfold Txt.startswith Builtin.Str.subAt
  rw [ly, ey]
  have lx : x.length = (TL.tl x).length := TL.len_tl x
  have ex : (x.cps.extract 0 (0 + 1)).toList = (TL.tl x).take 1 := by
    rw [Array.toList_extract]
    rfl
  have eb : (x.cps.extract 0 (0 + 1) == #[c]) = decide ((TL.tl x).take 1 = [c]) := by
    rw [← ex]
    by_cases h : x.cps.extract 0 (0 + 1) = #[c]
    · rw [h]; simp
    · have h2 : ¬ (x.cps.extract 0 (0 + 1)).toList = [c] := fun z => h (Array.toList_inj.mp z)
      rw [decide_eq_false h2]
      simpa using h
  rw [eb, lx]
  cases hx : TL.tl x with
  | nil => simp
  | cons d r => simp
theorem numL_head {n : Nat} : 0 < n → (TL.numL n).head? ≠ some 48 := by
  induction n using Nat.strongRecOn with
  | ind n ih =>
    intro h
    by_cases z : n < 10
    · rw [TL.numL_lt z]
      show some (48 + n) ≠ some 48
      intro e
      injection e with e
      omega
    · rw [TL.numL_step (by omega), List.head?_append]
      have z2 := ih (n / 10) (by omega) (by omega)
      cases hx : TL.numL (n / 10) with
      | nil => exact absurd hx (TL.numL_ne _)
      | cons d r =>
        rw [hx] at z2
        exact z2
theorem joinL_len (S : List Nat) : ∀ ps : List (List Nat), (TL.joinL S ps).length ≤ (ps.map (·.length)).sum + ps.length * S.length
  | [] => Nat.zero_le _
  | [p] => by
    show p.length ≤ _
    simp
  | p :: q :: r => by
    have z := joinL_len S (q :: r)
    show (p ++ (S ++ TL.joinL S (q :: r))).length ≤ _
    rw [List.length_append, List.length_append, List.map_cons, List.sum_cons, List.length_cons, Nat.succ_mul]
    omega
theorem join_len (y : Str) (ps : List Str) : (Str.join y ps).length ≤ (ps.map (·.length)).sum + ps.length * y.length := by
  rw [TL.len_tl, TL.tl_join]
  have z := joinL_len (TL.tl y) (ps.map TL.tl)
  rw [List.map_map, List.length_map, ← TL.len_tl y] at z
  have e : ps.map ((fun l : List Nat => l.length) ∘ TL.tl) = ps.map (·.length) := List.map_congr_left fun p _ => (TL.len_tl p).symm
  rw [e] at z
  exact z
theorem joinL_free {s : Nat} {S : List Nat} (hS : s ∉ S) : ∀ ps : List (List Nat), (∀ p ∈ ps, s ∉ p) → s ∉ TL.joinL S ps
  | [], _ => List.not_mem_nil
  | [p], h => h p List.mem_cons_self
  | p :: q :: r, h => by
    show s ∉ p ++ (S ++ TL.joinL S (q :: r))
    intro hm
    rcases List.mem_append.mp hm with e | e
    · exact h p List.mem_cons_self e
    · rcases List.mem_append.mp e with e | e
      · exact hS e
      · exact joinL_free hS (q :: r) (fun x hx => h x (List.mem_cons_of_mem _ hx)) e
theorem sum_le {L : List Nat} {c : Nat} (h : ∀ x ∈ L, x ≤ c) : L.sum ≤ L.length * c := by
  induction L with
  | nil => exact Nat.zero_le _
  | cons x L ih =>
    have h1 := h x List.mem_cons_self
    have h2 := ih fun y hy => h y (List.mem_cons_of_mem _ hy)
    rw [List.sum_cons, List.length_cons, Nat.succ_mul]
    omega
abbrev blank : Str := Str.ofString " "
abbrev feed : Str := Str.ofString "\n"
theorem tl_blank : TL.tl blank = [32] := by decide +kernel
theorem tl_feed : TL.tl feed = [10] := by decide +kernel
def rowT (r : List Int) : Str := Str.join blank (r.map sh)
def tabT (T : Tab) : Str := Str.join feed (T.map rowT)
theorem row_sum {r : List Int} (vb : ∀ v ∈ r, v.natAbs ≤ 10 ^ 40) : ((r.map sh).map (·.length)).sum ≤ r.length * 42 := by
  have z := sum_le (L := (r.map sh).map (·.length)) (c := 42) fun x hx => by
    obtain ⟨y, hy, rfl⟩ := List.mem_map.mp hx
    obtain ⟨v, hv, rfl⟩ := List.mem_map.mp hy
    exact sh_len (vb v hv)
  rwa [List.length_map, List.length_map] at z
theorem rowT_len {r : List Int} (vb : ∀ v ∈ r, v.natAbs ≤ 10 ^ 40) : (rowT r).length ≤ r.length * 43 := by
  have z := join_len blank (r.map sh)
  have lb : blank.length = 1 := by rw [TL.len_tl, tl_blank]; rfl
  rw [List.length_map, lb] at z
  have y := row_sum vb
  unfold rowT
  omega
theorem tab_sum {T : Tab} {n : Nat} (t : IsTab T n) (vb : VBd T.flatten) : ((T.map rowT).map (·.length)).sum ≤ T.length * 344 := by
  have z := sum_le (L := (T.map rowT).map (·.length)) (c := 344) fun x hx => by
    obtain ⟨y, hy, rfl⟩ := List.mem_map.mp hx
    obtain ⟨r, hr, rfl⟩ := List.mem_map.mp hy
    have z := rowT_len (r := r) fun v hv => vb v (List.mem_flatten.mpr ⟨r, hr, hv⟩)
    rw [t.rows r hr] at z
    have := t.nle
    omega
  rwa [List.length_map, List.length_map] at z
theorem tabT_len {T : Tab} {n : Nat} (t : IsTab T n) (vb : VBd T.flatten) : (tabT T).length ≤ 2760 := by
  have z := join_len feed (T.map rowT)
  have lb : feed.length = 1 := by rw [TL.len_tl, tl_feed]; rfl
  rw [List.length_map, lb] at z
  have y := tab_sum t vb
  have := t.le
  unfold tabT
  omega
theorem split_row {r : List Int} (h : r ≠ []) : Txt.split (rowT r) blank = r.map sh := by
  unfold rowT
  rw [← TL.join_eq]
  refine TL.split_join (s := 32) (S := []) tl_blank (by decide +kernel) (fun e => h (List.map_eq_nil_iff.mp e)) fun p hp => ?_
  obtain ⟨v, _, rfl⟩ := List.mem_map.mp hp
  exact sh_free (by decide)
theorem split_tab {T : Tab} (h : T ≠ []) : Txt.split (tabT T) feed = T.map rowT := by
  unfold tabT
  rw [← TL.join_eq]
  refine TL.split_join (s := 10) (S := []) tl_feed (by decide +kernel) (fun e => h (List.map_eq_nil_iff.mp e)) fun p hp => ?_
  obtain ⟨r, _, rfl⟩ := List.mem_map.mp hp
  unfold rowT
  rw [TL.tl_join, tl_blank]
  refine joinL_free (by decide) _ fun q hq => ?_
  obtain ⟨y, hy, rfl⟩ := List.mem_map.mp hq
  obtain ⟨v, _, rfl⟩ := List.mem_map.mp hy
  exact sh_free (by decide)
end G

/-! ### what a text writes -/
namespace G
open PySem PySem.Spec PyProof.Rows L2
def isDig (c : Nat) : Bool := decide (48 ≤ c) && decide (c ≤ 57)
/-- a word without the sign before it -/
def digL (L : List Nat) : List Nat := if L.head? = some 45 then L.drop 1 else L
def numOk (L : List Nat) : Bool := decide (digL L ≠ []) && ((digL L).all isDig && (decide (L = [48]) || decide ((digL L).head? ≠ some 48)))
def valL (L : List Nat) : Int := if L.head? = some 45 then -((NumText.digitsVal (digL L) : Nat) : Int) else ((NumText.digitsVal (digL L) : Nat) : Int)
theorem digs_of {D : List Nat} (h : D.all isDig = true) : NumText.AllDigits D := fun c hc => by
  have z := List.all_eq_true.mp h c hc
  unfold isDig at z
  simpa using z
theorem numOk_parts {L : List Nat} (h : numOk L = true) : digL L ≠ [] ∧ NumText.AllDigits (digL L) ∧ (L = [48] ∨ (digL L).head? ≠ some 48) := by
  unfold numOk at h
  simp only [Bool.and_eq_true, Bool.or_eq_true, decide_eq_true_eq] at h
  exact ⟨h.1, digs_of h.2.1, h.2.2⟩
theorem int_of_num {z : Str} (h1 : digL (TL.tl z) ≠ []) (h2 : NumText.AllDigits (digL (TL.tl z))) (hl : z.length ≤ 4300) : PySem.intText? z = some (valL (TL.tl z)) := by
  by_cases hm : (TL.tl z).head? = some 45
  · have e : TL.tl z = 45 :: digL (TL.tl z) := by
      unfold digL
      rw [if_pos hm]
      cases hx : TL.tl z with
      | nil => rw [hx] at hm; cases hm
      | cons c r =>
        rw [hx] at hm
        injection hm with hm
        rw [hm]
        rfl
    have r := PySem.intText_neg e h2 h1 hl
    rw [r]
    unfold valL
    rw [if_pos hm]
  · have e : digL (TL.tl z) = TL.tl z := by
      unfold digL
      rw [if_neg hm]
    rw [e] at h1 h2
    have r := PySem.intText_digits h2 h1 hl
    rw [r]
    unfold valL
    rw [if_neg hm, e]
theorem digits_lt : ∀ {n : Nat} {D : List Nat}, NumText.AllDigits D → D.length = n → NumText.digitsVal D < 10 ^ n := by
  intro n
  induction n with
  | zero =>
    intro D h e
    rw [List.length_eq_zero_iff.mp e]
    decide
  | succ n ih =>
    intro D h e
    have hne : D ≠ [] := fun z => by rw [z] at e; cases e
    have ed := List.dropLast_concat_getLast hne
    have ha : NumText.AllDigits D.dropLast := fun c hc => h c (List.dropLast_subset D hc)
    have hl : D.dropLast.length = n := by rw [List.length_dropLast, e]; rfl
    have r := ih ha hl
    have hc := h (D.getLast hne) (List.getLast_mem hne)
    rw [← ed, NumText.digitsVal_snoc, Nat.pow_succ]
    omega
theorem digL_len (L : List Nat) : (digL L).length ≤ L.length := by
  unfold digL
  split
  · rw [List.length_drop]; omega
  · exact Nat.le_refl _
theorem val_small {L : List Nat} {n : Nat} (h : NumText.AllDigits (digL L)) (hl : L.length ≤ n) : (valL L).natAbs < 10 ^ n := by
  have r := digits_lt h rfl
  have r2 : 10 ^ (digL L).length ≤ 10 ^ n := Nat.pow_le_pow_right (by decide) (Nat.le_trans (digL_len L) hl)
  unfold valL
  split
  · rw [Int.natAbs_neg, Int.natAbs_natCast]
    omega
  · rw [Int.natAbs_natCast]
    omega
/-! cut and joined -/
theorem spl1_sum (s : Nat) : ∀ (L acc : List Nat), ((TL.spl [s] 0 acc L).map (·.length)).sum + (TL.spl [s] 0 acc L).length = acc.length + L.length + 1 := by
  intro L
  induction L with
  | nil =>
    intro acc
    rw [TL.spl_nil]
    simp
  | cons c r ih =>
    intro acc
    cases h : TL.pre [s] (c :: r) with
    | true =>
      rw [TL.spl_hit h]
      have z := ih []
      show ((acc :: TL.spl [s] 0 [] r).map (·.length)).sum + (acc :: TL.spl [s] 0 [] r).length = _
      rw [List.map_cons, List.sum_cons, List.length_cons, List.length_cons]
      have z2 : ([] : List Nat).length = 0 := rfl
      omega
    | false =>
      rw [TL.spl_miss h, ih, List.length_append, List.length_cons (a := c) (as := r)]
      have z2 : [c].length = 1 := rfl
      omega
theorem spl1_ne (s : Nat) : ∀ (L acc : List Nat), TL.spl [s] 0 acc L ≠ [] := by
  intro L
  induction L with
  | nil =>
    intro acc
    rw [TL.spl_nil]
    exact List.cons_ne_nil _ _
  | cons c r ih =>
    intro acc
    cases h : TL.pre [s] (c :: r) with
    | true =>
      rw [TL.spl_hit h]
      exact List.cons_ne_nil _ _
    | false =>
      rw [TL.spl_miss h]
      exact ih _
theorem mem_le_sum : ∀ {L : List Nat} {x : Nat}, x ∈ L → x ≤ L.sum
  | y :: L, x, h => by
    rw [List.sum_cons]
    rcases List.mem_cons.mp h with e | e
    · omega
    · have := mem_le_sum e
      omega
/-- a text of one sign, to cut at -/
structure One (y : Str) (s : Nat) : Prop where
  e : TL.tl y = [s]
  k : y.cps.all (· < 256) = true
theorem one_blank : One blank 32 := ⟨tl_blank, by decide +kernel⟩
theorem one_feed : One feed 10 := ⟨tl_feed, by decide +kernel⟩
theorem One.len {y : Str} {s : Nat} (o : One y s) : y.length = 1 := by rw [TL.len_tl, o.e]; rfl
theorem One.pos {y : Str} {s : Nat} (o : One y s) : (y.length == 0) = false := by rw [o.len]; rfl
theorem One.ne {y : Str} {s : Nat} (o : One y s) : TL.tl y ≠ [] := by rw [o.e]; exact List.cons_ne_nil _ _
theorem split_tl {y : Str} {s : Nat} (o : One y s) (z : Str) : (Txt.split z y).map TL.tl = TL.spl [s] 0 [] (TL.tl z) := by
  rw [TL.split_spl z y o.ne (TL.kind_ok o.k), o.e]
theorem map_len_tl (ps : List Str) : ps.map (·.length) = (ps.map TL.tl).map (·.length) := by
  rw [List.map_map]
  exact List.map_congr_left fun p _ => TL.len_tl p
theorem split_sum {y : Str} {s : Nat} (o : One y s) (z : Str) : ((Txt.split z y).map (·.length)).sum + (Txt.split z y).length = z.length + 1 := by
  have r := spl1_sum s (TL.tl z) []
  rw [← split_tl o z, List.length_map, ← map_len_tl] at r
  rw [r, TL.len_tl]
  show 0 + _ + 1 = _
  omega
theorem split_ne {y : Str} {s : Nat} (o : One y s) (z : Str) : Txt.split z y ≠ [] := fun e => by
  have r := split_tl o z
  rw [e] at r
  exact spl1_ne s _ _ r.symm
theorem split_len {y : Str} {s : Nat} (o : One y s) (z : Str) : (Txt.split z y).length ≤ z.length + 1 := by
  have := split_sum o z
  omega
theorem split_mem {y : Str} {s : Nat} (o : One y s) {z p : Str} (h : p ∈ Txt.split z y) : p.length ≤ z.length := by
  have r := split_sum o z
  have r2 : p.length ≤ ((Txt.split z y).map (·.length)).sum := mem_le_sum (List.mem_map_of_mem h)
  have r3 : 0 < (Txt.split z y).length := List.length_pos_iff.mpr (split_ne o z)
  omega
theorem joinL_one (s : Nat) : ∀ (ps : List (List Nat)), ps ≠ [] → (TL.joinL [s] ps).length + 1 = (ps.map (·.length)).sum + ps.length
  | [], h => absurd rfl h
  | [p], _ => by
    show p.length + 1 = _
    simp
  | p :: q :: r, _ => by
    have z := joinL_one s (q :: r) (List.cons_ne_nil _ _)
    show (p ++ ([s] ++ TL.joinL [s] (q :: r))).length + 1 = _
    rw [List.length_append, List.length_append, List.map_cons, List.sum_cons, List.length_cons (a := p)]
    have z2 : [s].length = 1 := rfl
    omega
theorem join_one {y : Str} {s : Nat} (o : One y s) {ps : List Str} (h : ps ≠ []) : (Str.join y ps).length + 1 = (ps.map (·.length)).sum + ps.length := by
  have r := joinL_one s (ps.map TL.tl) (fun e => h (List.map_eq_nil_iff.mp e))
  rw [List.length_map, ← map_len_tl] at r
  rw [← r, TL.len_tl, TL.tl_join, o.e]
theorem join_le {y : Str} {s : Nat} (o : One y s) {ps : List Str} {c n : Nat} (hc : ∀ p ∈ ps, p.length ≤ c) (hn : ps.length ≤ n) (h0 : 0 < n) : (Str.join y ps).length + 1 ≤ n * (c + 1) := by
  by_cases h : ps = []
  · subst h
    show 0 + 1 ≤ _
    exact Nat.le_trans h0 (Nat.le_mul_of_pos_right _ (Nat.succ_pos _))
  · have r := join_one o h
    have r2 := sum_le (L := ps.map (·.length)) (c := c) fun x hx => by
      obtain ⟨p, hp, rfl⟩ := List.mem_map.mp hx
      exact hc p hp
    rw [List.length_map] at r2
    have r3 : ps.length * (c + 1) ≤ n * (c + 1) := Nat.mul_le_mul_right _ hn
    rw [Nat.mul_succ] at r3
    omega
/-! the lines and words of a text -/
def lns (z : Str) : List (List Str) := (Txt.split z feed).map fun y => Txt.split y blank
theorem lns_pos (z : Str) : 0 < (lns z).length := by
  unfold lns
  rw [List.length_map]
  exact List.length_pos_iff.mpr (split_ne one_feed z)
theorem lns_len (z : Str) : (lns z).length ≤ z.length + 1 := by
  unfold lns
  rw [List.length_map]
  exact split_len one_feed z
theorem lns_row {z : Str} {ws : List Str} (h : ws ∈ lns z) : ws ≠ [] ∧ ws.length ≤ z.length + 1 ∧ ∀ x ∈ ws, x.length ≤ z.length := by
  obtain ⟨y, hy, rfl⟩ := List.mem_map.mp h
  have r := split_mem one_feed hy
  refine ⟨split_ne one_blank y, Nat.le_trans (split_len one_blank y) (by omega), fun x hx => Nat.le_trans (split_mem one_blank hx) r⟩
def lineOk (n0 : Nat) (ws : List Str) : Bool := decide (ws.length = n0) && (decide (ws.length ≤ 8) && ws.all fun x => numOk (TL.tl x))
abbrev rowVal (ws : List Str) : List Int := ws.map fun x => valL (TL.tl x)
def nD : Option Nat → PyData
  | none => .none
  | some i => .int (i : Int)
def lineD (o : Option Nat) : PyData := .list [.str (Str.ofString "line"), nD o]
def toldD (T : Tab) : PyData := .list [.str (Str.ofString "told"), tab T]
def resD (z : Str) : PyData := if 8 < (lns z).length then lineD none else match (lns z).findIdx? (fun ws => !lineOk ((lns z).getD 0 []).length ws) with | some i => lineD (some i) | none => toldD ((lns z).map rowVal)
abbrev okAt (z : Str) (i : Nat) : Prop := lineOk ((lns z).getD 0 []).length ((lns z).getD i []) = true
theorem res_many {z : Str} (h : 8 < (lns z).length) : resD z = lineD none := by
  unfold resD
  rw [if_pos h]
theorem res_bad {z : Str} {i : Nat} (h8 : (lns z).length ≤ 8) (hi : i < (lns z).length) (ho : ∀ j, j < i → okAt z j) (hb : ¬ okAt z i) : resD z = lineD (some i) := by
  unfold resD
  rw [if_neg (by omega)]
  have e : (lns z).findIdx? (fun ws => !lineOk ((lns z).getD 0 []).length ws) = some i := by
    rw [List.findIdx?_eq_some_iff_getElem]
    refine ⟨hi, ?_, fun j hj => ?_⟩
    · have hb : ¬ lineOk _ ((lns z).getD i []) = true := hb
      rw [G.getD_at hi] at hb
      simpa using hb
    · have q : lineOk _ ((lns z).getD j []) = true := ho j hj
      rw [G.getD_at (Nat.lt_trans hj hi)] at q
      simpa using q
  rw [e]
theorem res_good {z : Str} (h8 : (lns z).length ≤ 8) (ho : ∀ j, j < (lns z).length → okAt z j) : resD z = toldD ((lns z).map rowVal) := by
  unfold resD
  rw [if_neg (by omega)]
  have e : (lns z).findIdx? (fun ws => !lineOk ((lns z).getD 0 []).length ws) = none := by
    rw [List.findIdx?_eq_none_iff]
    intro ws hw
    obtain ⟨j, hj, rfl⟩ := List.mem_iff_getElem.mp hw
    have q : lineOk _ ((lns z).getD j []) = true := ho j hj
    rw [G.getD_at hj] at q
    rw [q]
    rfl
  rw [e]
theorem lineOk_parts {n0 : Nat} {ws : List Str} (h : lineOk n0 ws = true) : ws.length = n0 ∧ ws.length ≤ 8 ∧ ∀ x ∈ ws, numOk (TL.tl x) = true := by
  unfold lineOk at h
  simp only [Bool.and_eq_true, decide_eq_true_eq, List.all_eq_true] at h
  exact ⟨h.1, h.2.1, h.2.2⟩
theorem lineOk_of {n0 : Nat} {ws : List Str} (h1 : ws.length = n0) (h2 : ws.length ≤ 8) (h3 : ∀ x ∈ ws, numOk (TL.tl x) = true) : lineOk n0 ws = true := by
  unfold lineOk
  simp only [Bool.and_eq_true, decide_eq_true_eq, List.all_eq_true]
  exact ⟨h1, h2, h3⟩
end G

/-! ### data that repr shows: great numbers and texts too -/
namespace G
open PySem PySem.Spec PyProof.Rows L2
def Low (z : Str) : Prop := ∀ c ∈ TL.tl z, c < 128
theorem Low.app {a b : Str} (h : Low a) (g : Low b) : Low (a ++ b) := fun c hc => by
  rw [TL.tl_append] at hc
  rcases List.mem_append.mp hc with e | e
  · exact h c e
  · exact g c e
theorem low_dec {z : Str} (h : ((TL.tl z).all fun c => decide (c < 128)) = true) : Low z := fun c hc => of_decide_eq_true (List.all_eq_true.mp h c hc)
theorem low_num (i : Int) : Low (sh i) := fun c h => by
  rw [tl_sh] at h
  have z : ∀ c ∈ TL.numL i.natAbs, c < 128 := fun c hc => by have := TL.numL_digits _ c hc; omega
  split at h
  · rcases List.mem_cons.mp h with e | e
    · omega
    · exact z c e
  · exact z c h
theorem low_from : ∀ (ts : List Str) (k : Nat) (acc : Str), Low acc → (∀ t ∈ ts, Low t) → Low (textFrom k acc ts)
  | [], k, acc, h, _ => h
  | t :: r, k, acc, h, g => by
    refine low_from r (k + 1) _ ?_ fun x hx => g x (List.mem_cons_of_mem _ hx)
    refine (h.app ?_).app (g t List.mem_cons_self)
    split
    · exact low_dec (by decide +kernel)
    · exact low_dec (by decide +kernel)
theorem Low.ok {z : Str} (h : Low z) : PyData.strOk z = true := by
  unfold PyData.strOk
  rw [Array.all_eq_true_iff_forall_mem]
  intro c hc
  have hc : c ∈ TL.tl z := by
    show c ∈ z.cps.toList
    exact Array.mem_toList_iff.mpr hc
  have := h c hc
  exact decide_eq_true (by omega)
structure Gs (k b : Nat) (d : PyData) : Prop where
  short : d.leavesShort 600 = true
  nd : d.hasDict = false
  dep : d.depth ≤ k
  blk : d.bulk ≤ b
  shw : d.showable = true
  low : Low d.shown
theorem log_577 {i : Int} (h : i.natAbs < 10 ^ 577) : i.natAbs.log2 < 1920 := by
  by_cases z : i.natAbs = 0
  · rw [z]; decide
  · exact (Nat.log2_lt z).2 (Nat.lt_trans h (by decide +kernel))
theorem gs_int {i : Int} (h : i.natAbs < 10 ^ 577) : Gs 0 0 (.int i) where
  short := by
    have e := int_text_length_le10 (k := 577) (by decide) h
    simp only [PyData.leavesShort, decide_eq_true_eq]
    show (Str.ofString (toString i)).length ≤ 600
    rw [PySem.ofString_length]
    omega
  nd := by simp [PyData.hasDict]
  dep := by simp [PyData.depth]
  blk := by simp [PyData.bulk]
  shw := by simp only [PyData.showable]; exact decide_eq_true (log_577 h)
  low := low_num i
theorem gs_none : Gs 0 0 .none := ⟨by simp [PyData.leavesShort], by simp [PyData.hasDict], by simp [PyData.depth], by simp [PyData.bulk], by simp [PyData.showable], low_dec (by decide +kernel)⟩
theorem gs_bool (b : Bool) : Gs 0 0 (.bool b) := ⟨by simp [PyData.leavesShort], by simp [PyData.hasDict], by simp [PyData.depth], by simp [PyData.bulk], by simp [PyData.showable], by cases b <;> exact low_dec (by decide +kernel)⟩
theorem gs_all {k b : Nat} : ∀ {ds : List PyData}, (∀ d ∈ ds, Gs k b d) → PyData.leavesShortAll 600 ds = true ∧ PyData.hasDictAll ds = false ∧ PyData.depthAll ds ≤ k ∧ PyData.bulkAll ds ≤ ds.length * (b + 1) ∧ PyData.showableAll ds = true ∧ ∀ t ∈ PyData.shownAll ds, Low t
  | [], _ => ⟨rfl, rfl, Nat.zero_le _, Nat.zero_le _, rfl, fun t ht => absurd ht List.not_mem_nil⟩
  | d :: ds, h => by
    obtain ⟨h1, h2, h3, h4, h5, h6⟩ := h d List.mem_cons_self
    obtain ⟨g1, g2, g3, g4, g5, g6⟩ := gs_all fun e he => h e (List.mem_cons_of_mem _ he)
    refine ⟨by simp only [PyData.leavesShortAll, h1, g1, Bool.and_self], by simp only [PyData.hasDictAll, h2, g2, Bool.or_self], by simp only [PyData.depthAll]; omega, ?_, by simp only [PyData.showableAll, h5, g5, Bool.and_self], fun t ht => ?_⟩
    · simp only [PyData.bulkAll, List.length_cons, Nat.succ_mul]
      omega
    · simp only [PyData.shownAll] at ht
      rcases List.mem_cons.mp ht with e | e
      · rw [e]; exact h6
      · exact g6 t e
theorem gs_list {k b n : Nat} {ds : List PyData} (h : ∀ d ∈ ds, Gs k b d) (hl : ds.length ≤ n) : Gs (k + 1) (n * (b + 1)) (.list ds) := by
  obtain ⟨h1, h2, h3, h4, h5, h6⟩ := gs_all h
  refine ⟨by simp only [PyData.leavesShort, h1], by simp only [PyData.hasDict, h2], by simp only [PyData.depth]; omega, by simp only [PyData.bulk]; exact Nat.le_trans h4 (Nat.mul_le_mul_right _ hl), by simp only [PyData.showable, h5], ?_⟩
  have e : (PyData.list ds).shown = textFrom 0 "[" (PyData.shownAll ds) ++ "]" := by simp only [PyData.shown]; rfl
  rw [e]
  exact (low_from _ _ _ (low_dec (by decide +kernel)) h6).app (low_dec (by decide +kernel))
theorem Gs.up {k b k' b' : Nat} {d : PyData} (h : Gs k b d) (hk : k ≤ k') (hb : b ≤ b') : Gs k' b' d := ⟨h.short, h.nd, Nat.le_trans h.dep hk, Nat.le_trans h.blk hb, h.shw, h.low⟩
theorem Gs.shows {k b : Nat} {d : PyData} (h : Gs k b d) (hk : k ≤ 20) (hb : b ≤ 20000) : Shows d := by
  refine ⟨h.shw, h.nd, Nat.le_trans h.dep hk, ?_⟩
  have z := PyData.shown_le_bulk 600 (by decide) d h.short
  have l := h.blk
  rw [sizeLine_eq]
  omega
theorem gs_lineW : Gs 0 4 (.str (Str.ofString "line")) := ⟨by decide +kernel, by simp [PyData.hasDict], by simp [PyData.depth], by decide +kernel, by simp [PyData.showable], low_dec (by decide +kernel)⟩
theorem gs_toldW : Gs 0 4 (.str (Str.ofString "told")) := ⟨by decide +kernel, by simp [PyData.hasDict], by simp [PyData.depth], by decide +kernel, by simp [PyData.showable], low_dec (by decide +kernel)⟩
theorem gs_line {o : Option Nat} (h : ∀ i, o = some i → i ≤ 1000) : Gs 3 2000 (lineD o) := Gs.up (k := 1) (b := 10) (gs_list (k := 0) (b := 4) (n := 2) (ds := [.str (Str.ofString "line"), nD o]) (fun d hd => by
  rcases List.mem_cons.mp hd with e | hd
  · rw [e]; exact gs_lineW
  · rw [List.mem_singleton.mp hd]
    cases o with
    | none => exact gs_none.up (Nat.le_refl 0) (by decide)
    | some i =>
      refine (gs_int ?_).up (Nat.le_refl 0) (by decide)
      rw [Int.natAbs_natCast]
      have := h i rfl
      exact Nat.lt_of_le_of_lt this (by decide +kernel)) (Nat.le_refl 2)) (by decide) (by decide)
theorem gs_told {T : Tab} (h8 : T.length ≤ 8) (hr : ∀ r ∈ T, r.length ≤ 8 ∧ ∀ v ∈ r, v.natAbs < 10 ^ 577) : Gs 3 2000 (toldD T) := (gs_list (k := 2) (b := 80) (n := 2) (ds := [.str (Str.ofString "told"), tab T]) (fun d hd => by
  rcases List.mem_cons.mp hd with e | hd
  · rw [e]; exact gs_toldW.up (by decide) (by decide)
  · rw [List.mem_singleton.mp hd]
    refine (gs_list (k := 1) (b := 8) (n := 8) (fun d hd => ?_) (by rw [List.length_map]; exact h8)).up (by decide) (by decide)
    obtain ⟨r, hr2, e⟩ := List.mem_map.mp hd
    rw [← e]
    refine (gs_list (k := 0) (b := 0) (n := 8) (fun d hd => ?_) (by rw [List.length_map]; exact (hr r hr2).1)).up (by decide) (by decide)
    obtain ⟨v, hv, e⟩ := List.mem_map.mp hd
    rw [← e]
    exact gs_int ((hr r hr2).2 v hv)) (Nat.le_refl 2)).up (by decide) (by decide)
/-- what a text of at most 577 signs is told of -/
theorem gs_res {z : Str} (hl : z.length ≤ 577) : Gs 3 2000 (resD z) := by
  by_cases h : 8 < (lns z).length
  · rw [res_many h]
    exact gs_line fun i e => by cases e
  · by_cases g : ∀ j, j < (lns z).length → okAt z j
    · rw [res_good (by omega) g]
      refine gs_told (by rw [List.length_map]; omega) fun r hr => ?_
      obtain ⟨ws, hw, rfl⟩ := List.mem_map.mp hr
      obtain ⟨j, hj, rfl⟩ := List.mem_iff_getElem.mp hw
      have q : lineOk _ ((lns z).getD j []) = true := g j hj
      rw [G.getD_at hj] at q
      obtain ⟨_, q2, q3⟩ := lineOk_parts q
      refine ⟨by rw [List.length_map]; exact q2, fun v hv => ?_⟩
      obtain ⟨x, hx, rfl⟩ := List.mem_map.mp hv
      have lx := (lns_row hw).2.2 x hx
      rw [TL.len_tl] at lx
      exact val_small (numOk_parts (q3 x hx)).2.1 (Nat.le_trans lx hl)
    · have h8 : (lns z).length ≤ 8 := by omega
      obtain ⟨i, hi, hb, ho⟩ : ∃ i, i < (lns z).length ∧ ¬ okAt z i ∧ ∀ j, j < i → okAt z j := by
        refine Classical.byContradiction fun hn => g fun j => ?_
        induction j using Nat.strongRecOn with
        | ind j ih =>
          intro hj
          refine Classical.byContradiction fun hb => hn ⟨j, hj, hb, fun k hk => ih k hk (Nat.lt_trans hk hj)⟩
      rw [res_bad h8 hi ho hb]
      exact gs_line fun k e => by cases e; omega
/-- two of the same text -/
theorem shaped_twoS {z : Str} (h : Low z) : SeqAt.shaped (.list [.str z, .str z]) = true := by
  refine shaped_of 1 (by decide) ?_ ?_
  · simp [PyData.canLayAll0, PyData.canLay0, h.ok]
  · simp [PyData.depthAll, PyData.depth]
end G

/-! ### data made of data -/
namespace G
open PySem PySem.Spec PyProof.Rows L2
def repZ (k : Nat) (ds : List PyData) : List PyData := (List.replicate k ds).flatten
theorem repL_pu (k : Nat) (ds : List PyData) : repL k (ds.map SD.pu) = (repZ k ds).map .pu := by
  show (List.replicate k (ds.map SD.pu)).flatten = ((List.replicate k ds).flatten).map .pu
  rw [List.map_flatten, List.map_replicate]
theorem cut_take {α : Type} (xs : List α) (k : Nat) : cutL xs none (some (k : Int)) = xs.take k := by
  unfold cutL HT.sIx
  simp only [List.drop_zero, Nat.sub_zero]
  have e : ¬ ((k : Int) < 0) := by omega
  first
    | (simp only [e, if_false]; rw [← List.take_take_of_le' ]; done)
    | (split <;> first | omega | (simp; try omega))
section
variable {X : Cx} {ρ : List SD} {M : Mem} {Q : Kn} {pos : Pos} {a b e : Expr} {es : List Expr}
theorem gtupleOf {p : Pos} (hm : X.mg "tuple" = none) (h : GE X ρ M a fun x M1 => ∃ ds, x = .pu (.list ds) ∧ Q (.pu (.tuple ds)) M1) (hg : Gl X "tuple" := by rfl) (na : starEach [a] X.env = (false, eval a X.env) :: starEach [] X.env := by rfl) : GE X ρ M (.Call (.Name "tuple" p) [a] [] pos) Q := .mk fun B F H σ Q' W S s => by
  refine wE_of (pe_tupleOf hg hm pE na) (h B F H σ _ W S fun x M1 v F1 H1 hx W1 s1 vx => ?_)
  obtain ⟨ds, rfl, q⟩ := hx
  have vx : Dt F1 v (.list ds) := vx
  cases vx with
  | lst h1 h2 =>
    refine .inl ⟨_, _, rfl, .of (W1.fh _ _ h1), fun p hp => ?_⟩
    obtain ⟨W2, s2⟩ := W1.froz (o := .tup _) hp
    exact s _ _ _ _ _ q W2 (s1.trans s2) (.tup upd_same (DtA.mono s2 h2))
theorem gcatZ (h : GE X ρ M a fun x M1 => ∃ d1, x = .pu (.list d1) ∧ GE X ρ M1 b fun y M2 => ∃ d2, y = .pu (.list d2) ∧ d1.length + d2.length ≤ 100000 ∧ Q (.pu (.list (d1 ++ d2))) M2) : GE X ρ M (.BinOp a .Add b pos) Q :=
  gz (gcat (h.mono fun x M1 ⟨d1, ex, h⟩ => h.mono fun y M2 ⟨d2, ey, hl, q⟩ => ⟨d1.map .pu, d2.map .pu, by rw [ex]; exact .pu, by rw [ey]; exact .pu, by rw [List.length_map, List.length_map]; exact hl, fun l => ⟨l, d1 ++ d2, M2, rfl, by rw [List.map_append], q⟩⟩))
theorem gmulZ (h : GE X ρ M a fun x M1 => ∃ d1, x = .pu (.list d1) ∧ GE X ρ M1 b fun y M2 => ∃ k : Nat, y = .pu (.int k) ∧ d1.length * k ≤ 100000 ∧ k ≤ 100000 ∧ Q (.pu (.list (repZ k d1))) M2) : GE X ρ M (.BinOp a .Mult b pos) Q :=
  gz (gmulL (h.mono fun x M1 ⟨d1, ex, h⟩ => h.mono fun y M2 ⟨k, ey, h1, h2, q⟩ => ⟨d1.map .pu, k, by rw [ex]; exact .pu, ey, by rw [List.length_map]; exact h1, h2, fun l => ⟨l, repZ k d1, M2, rfl, by rw [repL_pu], q⟩⟩))
theorem GA.mono {Q1 Q2 : List SD → Mem → Prop} (h : GA X ρ M es Q1) (f : ∀ rs M', Q1 rs M' → Q2 rs M') : GA X ρ M es Q2 := .mk fun B F H σ Q' W S s => h B F H σ Q' W S fun rs M' vs F' H' hx => s rs M' vs F' H' (f _ _ hx)
theorem glstZ (h : GA X ρ M es fun rs M1 => ∃ ds, rs = ds.map .pu ∧ ds.length ≤ 1000 ∧ Q (.pu (.list ds)) M1) : GE X ρ M (.List es pos) Q :=
  gz (glst (h.mono fun rs M1 ⟨ds, e, hl, q⟩ => ⟨by rw [e, List.length_map]; omega, fun l => ⟨l, ds, M1, rfl, by rw [e], q⟩⟩))
theorem gtakeZ (k : Nat) {j : Nat} {p2 p3 : Pos} (h : GE X ρ M e fun x M1 => ∃ ds, x = .pu (.list ds) ∧ Q (.pu (.list (ds.take k))) M1) : GE X ρ M (.Subscript e (.Slice none (some (.Constant (.int k) j p3)) none p2) pos) Q :=
  gz (gsl (h.mono fun x M1 ⟨ds, ex, q⟩ => gi ⟨_, rfl, ds.map .pu, by rw [ex]; exact .pu, fun l => ⟨l, ds.take k, M1, rfl, by rw [cut_take, List.map_take], q⟩⟩))
end
/-! written data, with * and + -/
def litM : Nat → Expr → Option PyData
  | 0, _ => none
  | f + 1, e => match e with
    | .Constant (.int i) _ _ => some (.int i)
    | .Constant (.bool b) _ _ => some (.bool b)
    | .Constant .none _ _ => some .none
    | .Constant (.str x) _ _ => some (.str x)
    | .UnaryOp .USub (.Constant (.int i) _ _) _ => some (.int (-i))
    | .Dict [] [] _ => some (.dict [])
    | .List es _ => match litL (litM f) es with
      | some ds => if ds.length ≤ 1000 then some (.list ds) else none
      | none => none
    | .Tuple es _ _ => match litL (litM f) es with
      | some ds => if ds.length ≤ 1000 then some (.tuple ds) else none
      | none => none
    | .BinOp a .Mult b _ => match litM f a, litM f b with
      | some (.list ds), some (.int (.ofNat k)) => if ds.length * k ≤ 1000 ∧ k ≤ 1000 then some (.list (repZ k ds)) else none
      | _, _ => none
    | .BinOp a .Add b _ => match litM f a, litM f b with
      | some (.list ds), some (.list es) => if ds.length + es.length ≤ 1000 then some (.list (ds ++ es)) else none
      | _, _ => none
    | _ => none
theorem litM_plain {f : Nat} {e : Expr} {d : PyData} (h : litM f e = some d) : plainE e = true := by
  cases f with
  | zero => cases h
  | succ f => cases e <;> first | rfl | cases h
theorem glitM_all {X : Cx} {ρ : List SD} {f : Nat} (ih : ∀ (e : Expr) (d : PyData), litM f e = some d → ∀ (M : Mem) (Q : Kn), Q (.pu d) M → GE X ρ M e Q) : ∀ (es : List Expr) (ds : List PyData), litL (litM f) es = some ds → ∀ (M : Mem) (QA : List SD → Mem → Prop), QA (ds.map .pu) M → GA X ρ M es QA
  | [], ds, h, M, QA, q => by
    cases h
    exact anil q
  | e :: es, ds, h, M, QA, q => by
    unfold litL at h
    cases h1 : litM f e with
    | none =>
      rw [h1] at h
      cases h
    | some d =>
      cases h2 : litL (litM f) es with
      | none =>
        rw [h1, h2] at h
        cases h
      | some ds' =>
        rw [h1, h2] at h
        cases h
        exact acons (ih e d h1 M _ (glitM_all ih es ds' h2 M _ q)) (star_plain (litM_plain h1) es X.env)
theorem glitMN {X : Cx} {ρ : List SD} : ∀ (f : Nat) (e : Expr) (d : PyData), litM f e = some d → ∀ (M : Mem) (Q : Kn), Q (.pu d) M → GE X ρ M e Q
  | 0, e, d, h, M, Q, q => by cases h
  | f + 1, e, d, h, M, Q, q => by
    have ih := glitMN (X := X) (ρ := ρ) f
    unfold litM at h
    split at h
    · cases h; exact gi q
    · cases h; exact gbl q
    · cases h; exact gnon q
    · cases h; exact gstr q
    · cases h; exact gneg (gi ⟨_, rfl, q⟩)
    · cases h; exact gdic0 q
    · next es p =>
      cases h2 : litL (litM f) es with
      | none => rw [h2] at h; cases h
      | some ds =>
        rw [h2] at h
        dsimp only at h
        split at h
        · next hl =>
          cases h
          exact glstZ (glitM_all ih es ds h2 M _ ⟨ds, rfl, hl, q⟩)
        · cases h
    · next es k p =>
      cases h2 : litL (litM f) es with
      | none => rw [h2] at h; cases h
      | some ds =>
        rw [h2] at h
        dsimp only at h
        split at h
        · next hl =>
          cases h
          exact gtup (glitM_all ih es ds h2 M _ ⟨ds, rfl, by omega, q⟩)
        · cases h
    · split at h
      · next ds k h1 h2 =>
        split at h
        · next hl =>
          cases h
          exact gmulZ (ih _ _ h1 _ _ ⟨ds, rfl, ih _ _ h2 _ _ ⟨k, rfl, by omega, by omega, q⟩⟩)
        · cases h
      · cases h
    · split at h
      · next ds es h1 h2 =>
        split at h
        · next hl =>
          cases h
          exact gcatZ (ih _ _ h1 _ _ ⟨ds, rfl, ih _ _ h2 _ _ ⟨es, rfl, by omega, q⟩⟩)
        · cases h
      · cases h
    · cases h
/-- written data as a value -/
theorem glitM {X : Cx} {ρ : List SD} {M : Mem} {Q : Kn} {e : Expr} (d : PyData) (h : litM 8 e = some d) (q : Q (.pu d) M) : GE X ρ M e Q := glitMN 8 e d h M Q q
/-! what repr shows of data, {} in it -/
structure Gz (k b : Nat) (d : PyData) : Prop where
  short : d.leavesShort 600 = true
  dep : d.depth ≤ k
  blk : d.bulk ≤ b
  shw : d.showable = true
theorem Gs.z {k b : Nat} {d : PyData} (h : Gs k b d) : Gz k b d := ⟨h.short, h.dep, h.blk, h.shw⟩
theorem gz_int {i : Int} (h : i.natAbs < 10 ^ 577) : Gz 0 0 (.int i) := (gs_int h).z
theorem gz_none : Gz 0 0 .none := gs_none.z
theorem gz_bool (b : Bool) : Gz 0 0 (.bool b) := (gs_bool b).z
theorem gz_all {k b : Nat} : ∀ {ds : List PyData}, (∀ d ∈ ds, Gz k b d) → PyData.leavesShortAll 600 ds = true ∧ PyData.depthAll ds ≤ k ∧ PyData.bulkAll ds ≤ ds.length * (b + 1) ∧ PyData.showableAll ds = true
  | [], _ => ⟨rfl, Nat.zero_le _, Nat.zero_le _, rfl⟩
  | d :: ds, h => by
    obtain ⟨h1, h3, h4, h5⟩ := h d List.mem_cons_self
    obtain ⟨g1, g3, g4, g5⟩ := gz_all fun e he => h e (List.mem_cons_of_mem _ he)
    refine ⟨by simp only [PyData.leavesShortAll, h1, g1, Bool.and_self], by simp only [PyData.depthAll]; omega, ?_, by simp only [PyData.showableAll, h5, g5, Bool.and_self]⟩
    simp only [PyData.bulkAll, List.length_cons, Nat.succ_mul]
    omega
theorem gz_list {k b n : Nat} {ds : List PyData} (h : ∀ d ∈ ds, Gz k b d) (hl : ds.length ≤ n) : Gz (k + 1) (n * (b + 1)) (.list ds) := by
  obtain ⟨h1, h3, h4, h5⟩ := gz_all h
  exact ⟨by simp only [PyData.leavesShort, h1], by simp only [PyData.depth]; omega, by simp only [PyData.bulk]; exact Nat.le_trans h4 (Nat.mul_le_mul_right _ hl), by simp only [PyData.showable, h5]⟩
theorem gz_tuple {k b n : Nat} {ds : List PyData} (h : ∀ d ∈ ds, Gz k b d) (hl : ds.length ≤ n) : Gz (k + 1) (n * (b + 1)) (.tuple ds) := by
  obtain ⟨h1, h3, h4, h5⟩ := gz_all h
  exact ⟨by simp only [PyData.leavesShort, h1], by simp only [PyData.depth]; omega, by simp only [PyData.bulk]; exact Nat.le_trans h4 (Nat.mul_le_mul_right _ hl), by simp only [PyData.showable, h5]⟩
theorem Gz.up {k b k' b' : Nat} {d : PyData} (h : Gz k b d) (hk : k ≤ k') (hb : b ≤ b') : Gz k' b' d := ⟨h.short, Nat.le_trans h.dep hk, Nat.le_trans h.blk hb, h.shw⟩
theorem Gz.shows {k b : Nat} {d : PyData} (h : Gz k b d) (hk : k ≤ 20) (hb : b ≤ 20000) : ShowZ d := by
  refine ⟨h.shw, Nat.le_trans h.dep hk, ?_⟩
  have z := PyData.shown_le_bulk 600 (by decide) d h.short
  have l := h.blk
  rw [sizeLine_eq]
  omega
/-- a closed one -/
def gzB (k b : Nat) (d : PyData) : Bool := d.leavesShort 600 && decide (d.depth ≤ k) && decide (d.bulk ≤ b) && d.showable
theorem gz_by {k b : Nat} {d : PyData} (h : gzB k b d = true) : Gz k b d := by
  unfold gzB at h
  simp only [Bool.and_eq_true, decide_eq_true_eq] at h
  exact ⟨h.1.1.1, h.1.1.2, h.1.2, h.2⟩
end G

namespace K01
open PySem PySem.Spec PyProof.Rows L2 G
abbrev sLaw : Stmt := topS 27
abbrev far : Int := 8 * 10 ^ (19 : Int).toNat
theorem far_ok : (far).natAbs ≤ 10 ^ 40 ∧ (-far).natAbs ≤ 10 ^ 40 ∧ (0 : Int).natAbs ≤ 10 ^ 40 := by decide +kernel
theorem t1_is : IsTab [[far, -far]] 2 := ⟨by decide, by decide, by decide, by decide, fun r hr => by rw [List.mem_singleton.mp hr]; rfl⟩
theorem t2_is : IsTab [[far], [0], [far]] 1 := ⟨by decide, by decide, by decide, by decide, fun r hr => by
  simp only [List.mem_cons, List.not_mem_nil, or_false] at hr
  rcases hr with rfl | rfl | rfl <;> rfl⟩
theorem t3_is : IsTab [[5]] 1 := ⟨by decide, by decide, by decide, by decide, fun r hr => by rw [List.mem_singleton.mp hr]; rfl⟩
theorem t3_run : (PyData.eqv (enD (run [[5]] 1 5).2) (.tuple [.int 0, .int 0])) = true ∧ SeqAt.shaped (enD (run [[5]] 1 5).2) = true ∧ SeqAt.shaped (.tuple [.int 0, .int 0]) = true := ⟨by decide +kernel, by decide +kernel, by decide +kernel⟩
section
variable {P : Program} {w : World} {K : PySem.W.Frag} {mg : Str → Option Value} {base : Heap} {f : Addr} {fd : FuncData} {k : Nat}
abbrev NLaw : List Str := ["_law_script", "_law_draws_here", "_law_most", "_law_far", "_law_cell"]
theorem scLaw : FnScope NLaw ["_law_script"] (defScope sLaw) := ⟨rfl, rfl, rfl, by decide +kernel, rfl, by decide +kernel, by decide +kernel⟩
theorem right_mono : ∀ rs M Kk Kk', SRi rs M Kk → (∀ r M', Kk r M' → Kk' r M') → SRi rs M Kk' := fun rs M Kk Kk' ⟨T, n, t, v, e, m, q⟩ h => ⟨T, n, t, v, e, m, fun M' => h _ _ (q M')⟩
theorem fLaw (F : Fun K "law" "law" sLaw f fd) (b : Bl mg) (CD : Cal P w K mg base k "_law_draws" sDraws ["_law_cell"] SDraws) (CT : Cal P w K mg base k "_law_table" sTable ["_law_draws_here", "_law_most"] STable) (CR : Cal P w K mg base k "_law_right" sRight ["_law_net"] SRi) (CE : Cal P w K mg base k "end" sEnd ["table", "key"] SEnd) :
    FnG P w K mg base (k + 1) f fd ["_law_script"] (LawS K 63) := by
  refine fnG F scLaw (fun rs M Kk ⟨a, ns, e, _⟩ => by rw [e]; rfl) fun cdv A outer s0 H hgd hr rs M Kk hS => ?_
  obtain ⟨a, ns, rfl, hsc, hl, _, _, q⟩ := hS
  have hu64 : A.units + 3 + 64 < cLine := by
    have z : A.units + 3 + 16 * k + 200 < cLine := hr.un
    omega
  refine bseq (fun ρ' M' => ∃ z1 z2 z3 z4, ρ' = [.rf (.ref a), z1, z2, z3, z4]) ?_ fun ρ' M' h => ?_
  · refine sdraws DrAt 1 4 6 600 (fun ρ' => ∃ z1 z2 z3 z4, ρ' = [.rf (.ref a), z1, z2, z3, z4]) rfl scLaw.nd PassesOwn.never (fun _ _ _ h => h.mono) rfl (by decide) rfl (.inl rfl) (.inl rfl) rfl hsc rfl (.inl rfl) (blkOk_by (N := NLaw) (sc := defScope sLaw) (by decide +kernel)) (fun _ _ _ _ _ => pg_name (i := 4) scLaw.nd rfl (Or.inl rfl)) (show 4 < 5 by decide) ?_ ⟨_, _, _, _, rfl⟩ ?_ fun _ _ h => h
    · rintro z ρ2 h2 Y ⟨s', H', C, cl, fp, rfl⟩ M1 Q1 hq
      exact gcalP CD hgd hr (acons (gv 4 h2 (anil ⟨_, rfl, rfl, fun l xs hx => hq l xs hx⟩)))
    · rintro D' ys N ρ' ⟨z1, z2, z3, z4, rfl⟩ hN hd
      refine bone (sfor PassesOwn.never rfl (iglist (glitM (.list [.int 8, .int 4, .int 3]) rfl ⟨_, rfl, ?_⟩)))
      refine ⟨fun i ρ3 M3 => (∃ z2 z3 z4, ρ3 = [.rf (.ref a), .rf (.ref D'), z2, z3, z4]) ∧ ∃ zs, DrAt (N + 200 * i) zs ∧ Hld [(D', .lst zs)] M3, ⟨⟨_, _, _, rfl⟩, ys, hd, hld_refl _⟩, fun i ρ3 M3 hi h => ?_, fun ρ3 M3 ⟨⟨z2, z3, z4, e⟩, zs, d, h⟩ => ⟨⟨_, z2, z3, z4, e⟩, zs, d, h⟩⟩
      obtain ⟨⟨z2, z3, z4, rfl⟩, zs, dr, hold⟩ := h
      have hi3 : i < 3 := hi
      obtain ⟨m, em, m0, m8⟩ : ∃ m : Nat, nth [PyData.int 8, .int 4, .int 3] i = .pu (.int (m : Int)) ∧ 0 < m ∧ m ≤ 8 := by
        obtain rfl | rfl | rfl : i = 0 ∨ i = 1 ∨ i = 2 := by omega
        · exact ⟨8, rfl, by decide, by decide⟩
        · exact ⟨4, rfl, by decide, by decide⟩
        · exact ⟨3, rfl, by decide, by decide⟩
      rw [em]
      refine tgname 2 (gbhld hold ?_) scLaw.nd
      refine bone (sif (tnot (tval (gcalP CR hgd hr (acons (gcal CT hgd hr (acons (gv 1 rfl (acons (gv 2 rfl (anil ⟨[(D', .lst zs)], [], .refl _, D', zs, _, m, rfl, rfl, dr, by omega, m0, m8, fun T n ys2 t vb dr2 => anil ⟨T, n, t, vb, rfl, rfl, fun M' => ⟨true, rfl, iteN rfl (bnil ⟨⟨_, _, _, rfl⟩, ys2, dr2.mono (by omega), M', ?_⟩)⟩⟩⟩)))))))))))
      exact List.perm_append_comm
  obtain ⟨z1, z2, z3, z4, rfl⟩ := h
  refine gbforget (List.nil_sublist _) ?_
  refine bcons (sset 3 scLaw.nd (gmul (gi ⟨8, rfl, gpow (gi ⟨10, rfl, gi ⟨19, rfl, ⟨by decide, by decide, by decide⟩, _, rfl, .inl ⟨by decide, by decide⟩, ?_⟩⟩)⟩)))
  show GB _ [.rf (.ref a), z1, z2, .pu (.int far), z4] _ _ _
  have vb1 : VB ([[far, -far]] : Tab).flatten := fun v hv => by
    simp only [List.flatten_cons, List.flatten_nil, List.append_nil, List.mem_cons, List.not_mem_nil, or_false] at hv
    rcases hv with rfl | rfl
    · exact far_ok.1
    · exact far_ok.2.1
  have vb2 : VB ([[far], [0], [far]] : Tab).flatten := fun v hv => by
    simp only [List.flatten_cons, List.flatten_nil, List.append_nil, List.cons_append, List.nil_append, List.mem_cons, List.not_mem_nil, or_false] at hv
    rcases hv with rfl | rfl | rfl
    · exact far_ok.1
    · exact far_ok.2.2
    · exact far_ok.1
  have r1 := t1_is
  have r2 := t2_is
  generalize far = fr at vb1 vb2 r1 r2
  refine bone (sret (gandV (gcalD right_mono CR hgd hr (acons (glstZ (acons (glstZ (acons (gv 3 rfl (acons (gneg (gv 3 rfl ⟨fr, rfl, anil ⟨[.int fr, .int (-fr)], rfl, show 2 ≤ 1000 by decide, anil ⟨[rowD [fr, -fr]], rfl, show 1 ≤ 1000 by decide, anil ⟨[[fr, -fr]], 2, r1, vb1, rfl, rfl, fun _ => ⟨true, rfl, iteT ?_⟩⟩⟩⟩⟩))))))))))))
  refine gandV (gcalD right_mono CR hgd hr (acons (glstZ (acons (glstZ (acons (gv 3 rfl (anil ⟨[.int fr], rfl, show 1 ≤ 1000 by decide, acons (glstZ (acons (gi (anil ⟨[.int 0], rfl, show 1 ≤ 1000 by decide, acons (glstZ (acons (gv 3 rfl (anil ⟨[.int fr], rfl, show 1 ≤ 1000 by decide, anil ⟨[rowD [fr], rowD [0], rowD [fr]], rfl, show 3 ≤ 1000 by decide, anil ⟨[[fr], [0], [fr]], 1, r2, vb2, rfl, rfl, fun _ => ⟨true, rfl, iteT ?_⟩⟩⟩⟩))))⟩))))⟩))))))))
  refine gone (geqD hu64 (gcalD end_mono CE hgd hr (acons (glitM (tab [[5]]) rfl (acons (gi (anil ⟨[[5]], 1, 5, t3_is, rfl, rfl, fun _ => ⟨_, .pu _, t3_run.2.1, glitM (.tuple [.int 0, .int 0]) rfl ⟨_, .pu _, .pu _, t3_run.2.2, ?_⟩⟩⟩)))))))
  show Kk (.pu (.bool (PyData.eqv (enD (run [[5]] 1 5).2) (.tuple [.int 0, .int 0])))) _
  rw [t3_run.1]
  exact q _
end
end K01

namespace K01
open PySem PySem.Spec PyProof.Rows L2 G
/-! ### what the top has written -/
theorem all_mk {l : PySem.W.OpenLaw} {w : World} {K : PySem.W.Frag} {h : Heap} {mg : Str → Option Value} {fa : Addr} {tk : Tok} (X : K.In h) (G : h.Ns mainGlobals mg) (hfa : mg "law" = some (.ref fa))
    (aL : PySem.W.nsIn K mainGlobals "LONGEST" = some (some (.int 8 tk)))
    {f5 : Addr} {od5 an5 : Option Addr} {sl5 : Array (Option Value)} {oc5 kV5 dc5 pm5 cd5 ct5 : Value}
    (a5 : PySem.W.nsIn K mainGlobals "is_whole" = some (some (.ref f5))) (l5 : K.lookup f5 = some ⟨oc5, od5, .func (PySem.W.fnOf "is_whole" "is_whole" (defArgs sWhole) (defBody sWhole) (defScope sWhole) .none kV5 dc5 pm5 an5 cd5 ct5), sl5⟩) (c5 : PySem.W.codeIn K cd5 "is_whole" = true) (k5 : PySem.W.keepIn K (.ref f5) = true)
    {f15 : Addr} {od15 an15 : Option Addr} {sl15 : Array (Option Value)} {oc15 kV15 dc15 pm15 cd15 ct15 : Value}
    (a15 : PySem.W.nsIn K mainGlobals "walk" = some (some (.ref f15))) (l15 : K.lookup f15 = some ⟨oc15, od15, .func (PySem.W.fnOf "walk" "walk" (defArgs sWalk) (defBody sWalk) (defScope sWalk) .none kV15 dc15 pm15 an15 cd15 ct15), sl15⟩) (c15 : PySem.W.codeIn K cd15 "walk" = true) (k15 : PySem.W.keepIn K (.ref f15) = true)
    {f16 : Addr} {od16 an16 : Option Addr} {sl16 : Array (Option Value)} {oc16 kV16 dc16 pm16 cd16 ct16 : Value}
    (a16 : PySem.W.nsIn K mainGlobals "turned" = some (some (.ref f16))) (l16 : K.lookup f16 = some ⟨oc16, od16, .func (PySem.W.fnOf "turned" "turned" (defArgs sTurned) (defBody sTurned) (defScope sTurned) .none kV16 dc16 pm16 an16 cd16 ct16), sl16⟩) (c16 : PySem.W.codeIn K cd16 "turned" = true) (k16 : PySem.W.keepIn K (.ref f16) = true)
    {f8 : Addr} {od8 an8 : Option Addr} {sl8 : Array (Option Value)} {oc8 kV8 dc8 pm8 cd8 ct8 : Value}
    (a8 : PySem.W.nsIn K mainGlobals "_is_list_of_lists" = some (some (.ref f8))) (l8 : K.lookup f8 = some ⟨oc8, od8, .func (PySem.W.fnOf "_is_list_of_lists" "_is_list_of_lists" (defArgs sLoL) (defBody sLoL) (defScope sLoL) .none kV8 dc8 pm8 an8 cd8 ct8), sl8⟩) (c8 : PySem.W.codeIn K cd8 "_is_list_of_lists" = true) (k8 : PySem.W.keepIn K (.ref f8) = true)
    {f9 : Addr} {od9 an9 : Option Addr} {sl9 : Array (Option Value)} {oc9 kV9 dc9 pm9 cd9 ct9 : Value}
    (a9 : PySem.W.nsIn K mainGlobals "_is_row" = some (some (.ref f9))) (l9 : K.lookup f9 = some ⟨oc9, od9, .func (PySem.W.fnOf "_is_row" "_is_row" (defArgs sRow) (defBody sRow) (defScope sRow) .none kV9 dc9 pm9 an9 cd9 ct9), sl9⟩) (c9 : PySem.W.codeIn K cd9 "_is_row" = true) (k9 : PySem.W.keepIn K (.ref f9) = true)
    {f6 : Addr} {od6 an6 : Option Addr} {sl6 : Array (Option Value)} {oc6 kV6 dc6 pm6 cd6 ct6 : Value}
    (a6 : PySem.W.nsIn K mainGlobals "check_table" = some (some (.ref f6))) (l6 : K.lookup f6 = some ⟨oc6, od6, .func (PySem.W.fnOf "check_table" "check_table" (defArgs sCkTab) (defBody sCkTab) (defScope sCkTab) .none kV6 dc6 pm6 an6 cd6 ct6), sl6⟩) (c6 : PySem.W.codeIn K cd6 "check_table" = true) (k6 : PySem.W.keepIn K (.ref f6) = true)
    {f7 : Addr} {od7 an7 : Option Addr} {sl7 : Array (Option Value)} {oc7 kV7 dc7 pm7 cd7 ct7 : Value}
    (a7 : PySem.W.nsIn K mainGlobals "check_key" = some (some (.ref f7))) (l7 : K.lookup f7 = some ⟨oc7, od7, .func (PySem.W.fnOf "check_key" "check_key" (defArgs sCkKey) (defBody sCkKey) (defScope sCkKey) .none kV7 dc7 pm7 an7 cd7 ct7), sl7⟩) (c7 : PySem.W.codeIn K cd7 "check_key" = true) (k7 : PySem.W.keepIn K (.ref f7) = true)
    {f11 : Addr} {od11 an11 : Option Addr} {sl11 : Array (Option Value)} {oc11 kV11 dc11 pm11 cd11 ct11 : Value}
    (a11 : PySem.W.nsIn K mainGlobals "path" = some (some (.ref f11))) (l11 : K.lookup f11 = some ⟨oc11, od11, .func (PySem.W.fnOf "path" "path" (defArgs sPath) (defBody sPath) (defScope sPath) .none kV11 dc11 pm11 an11 cd11 ct11), sl11⟩) (c11 : PySem.W.codeIn K cd11 "path" = true) (k11 : PySem.W.keepIn K (.ref f11) = true)
    {f12 : Addr} {od12 an12 : Option Addr} {sl12 : Array (Option Value)} {oc12 kV12 dc12 pm12 cd12 ct12 : Value}
    (a12 : PySem.W.nsIn K mainGlobals "end" = some (some (.ref f12))) (l12 : K.lookup f12 = some ⟨oc12, od12, .func (PySem.W.fnOf "end" "end" (defArgs sEnd) (defBody sEnd) (defScope sEnd) .none kV12 dc12 pm12 an12 cd12 ct12), sl12⟩) (c12 : PySem.W.codeIn K cd12 "end" = true) (k12 : PySem.W.keepIn K (.ref f12) = true)
    {f13 : Addr} {od13 an13 : Option Addr} {sl13 : Array (Option Value)} {oc13 kV13 dc13 pm13 cd13 ct13 : Value}
    (a13 : PySem.W.nsIn K mainGlobals "path_from_below" = some (some (.ref f13))) (l13 : K.lookup f13 = some ⟨oc13, od13, .func (PySem.W.fnOf "path_from_below" "path_from_below" (defArgs sPathB) (defBody sPathB) (defScope sPathB) .none kV13 dc13 pm13 an13 cd13 ct13), sl13⟩) (c13 : PySem.W.codeIn K cd13 "path_from_below" = true) (k13 : PySem.W.keepIn K (.ref f13) = true)
    {f14 : Addr} {od14 an14 : Option Addr} {sl14 : Array (Option Value)} {oc14 kV14 dc14 pm14 cd14 ct14 : Value}
    (a14 : PySem.W.nsIn K mainGlobals "end_from_below" = some (some (.ref f14))) (l14 : K.lookup f14 = some ⟨oc14, od14, .func (PySem.W.fnOf "end_from_below" "end_from_below" (defArgs sEndB) (defBody sEndB) (defScope sEndB) .none kV14 dc14 pm14 an14 cd14 ct14), sl14⟩) (c14 : PySem.W.codeIn K cd14 "end_from_below" = true) (k14 : PySem.W.keepIn K (.ref f14) = true)
    {f18 : Addr} {od18 an18 : Option Addr} {sl18 : Array (Option Value)} {oc18 kV18 dc18 pm18 cd18 ct18 : Value}
    (a18 : PySem.W.nsIn K mainGlobals "_law_draws" = some (some (.ref f18))) (l18 : K.lookup f18 = some ⟨oc18, od18, .func (PySem.W.fnOf "_law_draws" "_law_draws" (defArgs sDraws) (defBody sDraws) (defScope sDraws) .none kV18 dc18 pm18 an18 cd18 ct18), sl18⟩) (c18 : PySem.W.codeIn K cd18 "_law_draws" = true) (k18 : PySem.W.keepIn K (.ref f18) = true)
    {f19 : Addr} {od19 an19 : Option Addr} {sl19 : Array (Option Value)} {oc19 kV19 dc19 pm19 cd19 ct19 : Value}
    (a19 : PySem.W.nsIn K mainGlobals "_law_next" = some (some (.ref f19))) (l19 : K.lookup f19 = some ⟨oc19, od19, .func (PySem.W.fnOf "_law_next" "_law_next" (defArgs sNext) (defBody sNext) (defScope sNext) .none kV19 dc19 pm19 an19 cd19 ct19), sl19⟩) (c19 : PySem.W.codeIn K cd19 "_law_next" = true) (k19 : PySem.W.keepIn K (.ref f19) = true)
    {f20 : Addr} {od20 an20 : Option Addr} {sl20 : Array (Option Value)} {oc20 kV20 dc20 pm20 cd20 ct20 : Value}
    (a20 : PySem.W.nsIn K mainGlobals "_law_order" = some (some (.ref f20))) (l20 : K.lookup f20 = some ⟨oc20, od20, .func (PySem.W.fnOf "_law_order" "_law_order" (defArgs sOrder) (defBody sOrder) (defScope sOrder) .none kV20 dc20 pm20 an20 cd20 ct20), sl20⟩) (c20 : PySem.W.codeIn K cd20 "_law_order" = true) (k20 : PySem.W.keepIn K (.ref f20) = true)
    {f22 : Addr} {od22 an22 : Option Addr} {sl22 : Array (Option Value)} {oc22 kV22 dc22 pm22 cd22 ct22 : Value}
    (a22 : PySem.W.nsIn K mainGlobals "_law_nearly" = some (some (.ref f22))) (l22 : K.lookup f22 = some ⟨oc22, od22, .func (PySem.W.fnOf "_law_nearly" "_law_nearly" (defArgs sNearly) (defBody sNearly) (defScope sNearly) .none kV22 dc22 pm22 an22 cd22 ct22), sl22⟩) (c22 : PySem.W.codeIn K cd22 "_law_nearly" = true) (k22 : PySem.W.keepIn K (.ref f22) = true)
    {f21 : Addr} {od21 an21 : Option Addr} {sl21 : Array (Option Value)} {oc21 kV21 dc21 pm21 cd21 ct21 : Value}
    (a21 : PySem.W.nsIn K mainGlobals "_law_table" = some (some (.ref f21))) (l21 : K.lookup f21 = some ⟨oc21, od21, .func (PySem.W.fnOf "_law_table" "_law_table" (defArgs sTable) (defBody sTable) (defScope sTable) .none kV21 dc21 pm21 an21 cd21 ct21), sl21⟩) (c21 : PySem.W.codeIn K cd21 "_law_table" = true) (k21 : PySem.W.keepIn K (.ref f21) = true)
    {f23 : Addr} {od23 an23 : Option Addr} {sl23 : Array (Option Value)} {oc23 kV23 dc23 pm23 cd23 ct23 : Value}
    (a23 : PySem.W.nsIn K mainGlobals "_law_way" = some (some (.ref f23))) (l23 : K.lookup f23 = some ⟨oc23, od23, .func (PySem.W.fnOf "_law_way" "_law_way" (defArgs sWay) (defBody sWay) (defScope sWay) .none kV23 dc23 pm23 an23 cd23 ct23), sl23⟩) (c23 : PySem.W.codeIn K cd23 "_law_way" = true) (k23 : PySem.W.keepIn K (.ref f23) = true)
    {f24 : Addr} {od24 an24 : Option Addr} {sl24 : Array (Option Value)} {oc24 kV24 dc24 pm24 cd24 ct24 : Value}
    (a24 : PySem.W.nsIn K mainGlobals "_law_keys" = some (some (.ref f24))) (l24 : K.lookup f24 = some ⟨oc24, od24, .func (PySem.W.fnOf "_law_keys" "_law_keys" (defArgs sKeys) (defBody sKeys) (defScope sKeys) .none kV24 dc24 pm24 an24 cd24 ct24), sl24⟩) (c24 : PySem.W.codeIn K cd24 "_law_keys" = true) (k24 : PySem.W.keepIn K (.ref f24) = true)
    {f25 : Addr} {od25 an25 : Option Addr} {sl25 : Array (Option Value)} {oc25 kV25 dc25 pm25 cd25 ct25 : Value}
    (a25 : PySem.W.nsIn K mainGlobals "_law_way_up" = some (some (.ref f25))) (l25 : K.lookup f25 = some ⟨oc25, od25, .func (PySem.W.fnOf "_law_way_up" "_law_way_up" (defArgs sWayUp) (defBody sWayUp) (defScope sWayUp) .none kV25 dc25 pm25 an25 cd25 ct25), sl25⟩) (c25 : PySem.W.codeIn K cd25 "_law_way_up" = true) (k25 : PySem.W.keepIn K (.ref f25) = true)
    {f26 : Addr} {od26 an26 : Option Addr} {sl26 : Array (Option Value)} {oc26 kV26 dc26 pm26 cd26 ct26 : Value}
    (a26 : PySem.W.nsIn K mainGlobals "_law_right" = some (some (.ref f26))) (l26 : K.lookup f26 = some ⟨oc26, od26, .func (PySem.W.fnOf "_law_right" "_law_right" (defArgs sRight) (defBody sRight) (defScope sRight) .none kV26 dc26 pm26 an26 cd26 ct26), sl26⟩) (c26 : PySem.W.codeIn K cd26 "_law_right" = true) (k26 : PySem.W.keepIn K (.ref f26) = true)
    {f27 : Addr} {od27 an27 : Option Addr} {sl27 : Array (Option Value)} {oc27 kV27 dc27 pm27 cd27 ct27 : Value}
    (a27 : PySem.W.nsIn K mainGlobals "law" = some (some (.ref f27))) (l27 : K.lookup f27 = some ⟨oc27, od27, .func (PySem.W.fnOf "law" "law" (defArgs sLaw) (defBody sLaw) (defScope sLaw) .none kV27 dc27 pm27 an27 cd27 ct27), sl27⟩) (c27 : PySem.W.codeIn K cd27 "law" = true) (k27 : PySem.W.keepIn K (.ref f27) = true)
    (z0 : PySem.W.nsIn K mainGlobals "isinstance" = some none)
    (z1 : PySem.W.nsIn K mainGlobals "int" = some none)
    (z2 : PySem.W.nsIn K mainGlobals "bool" = some none)
    (z3 : PySem.W.nsIn K mainGlobals "list" = some none)
    (z4 : PySem.W.nsIn K mainGlobals "len" = some none)
    (z5 : PySem.W.nsIn K mainGlobals "all" = some none)
    (z6 : PySem.W.nsIn K mainGlobals "enumerate" = some none)
    (z7 : PySem.W.nsIn K mainGlobals "zip" = some none)
    (z8 : PySem.W.nsIn K mainGlobals "sorted" = some none)
    (z9 : PySem.W.nsIn K mainGlobals "set" = some none)
    (z10 : PySem.W.nsIn K mainGlobals "sum" = some none)
    (z11 : PySem.W.nsIn K mainGlobals "min" = some none)
    (z12 : PySem.W.nsIn K mainGlobals "range" = some none)
    (z13 : PySem.W.nsIn K mainGlobals "repr" = some none)
    : ∃ fd : FuncData, (∀ (s : Shared) (v : Value), BindsTo s fd ⟨[v], []⟩ [("_law_script", v)]) ∧ ∀ base : Heap, K.In base → base.Ns mainGlobals mg → FnG l.prog w K mg base 6 fa fd ["_law_script"] (LawS K 63) := by
  have e := hfa.symm.trans (PySem.W.mg_of X G a27)
  cases e
  have F5 := fun_mk (st := sWhole) l5 c5 k5
  have b5 := F5.binds (ps := ["thing"]) fun _ _ _ _ _ _ us hl => match us, hl with | [_], _ => rfl
  have g5 := PySem.W.mg_of X G a5
  have F15 := fun_mk (st := sWalk) l15 c15 k15
  have b15 := F15.binds (ps := ["table", "key"]) fun _ _ _ _ _ _ us hl => match us, hl with | [_, _], _ => rfl
  have g15 := PySem.W.mg_of X G a15
  have F16 := fun_mk (st := sTurned) l16 c16 k16
  have b16 := F16.binds (ps := ["table"]) fun _ _ _ _ _ _ us hl => match us, hl with | [_], _ => rfl
  have g16 := PySem.W.mg_of X G a16
  have F8 := fun_mk (st := sLoL) l8 c8 k8
  have b8 := F8.binds (ps := ["thing"]) fun _ _ _ _ _ _ us hl => match us, hl with | [_], _ => rfl
  have g8 := PySem.W.mg_of X G a8
  have F9 := fun_mk (st := sRow) l9 c9 k9
  have b9 := F9.binds (ps := ["row"]) fun _ _ _ _ _ _ us hl => match us, hl with | [_], _ => rfl
  have g9 := PySem.W.mg_of X G a9
  have F6 := fun_mk (st := sCkTab) l6 c6 k6
  have b6 := F6.binds (ps := ["table"]) fun _ _ _ _ _ _ us hl => match us, hl with | [_], _ => rfl
  have g6 := PySem.W.mg_of X G a6
  have F7 := fun_mk (st := sCkKey) l7 c7 k7
  have b7 := F7.binds (ps := ["key"]) fun _ _ _ _ _ _ us hl => match us, hl with | [_], _ => rfl
  have g7 := PySem.W.mg_of X G a7
  have F11 := fun_mk (st := sPath) l11 c11 k11
  have b11 := F11.binds (ps := ["table", "key"]) fun _ _ _ _ _ _ us hl => match us, hl with | [_, _], _ => rfl
  have g11 := PySem.W.mg_of X G a11
  have F12 := fun_mk (st := sEnd) l12 c12 k12
  have b12 := F12.binds (ps := ["table", "key"]) fun _ _ _ _ _ _ us hl => match us, hl with | [_, _], _ => rfl
  have g12 := PySem.W.mg_of X G a12
  have F13 := fun_mk (st := sPathB) l13 c13 k13
  have b13 := F13.binds (ps := ["table", "key"]) fun _ _ _ _ _ _ us hl => match us, hl with | [_, _], _ => rfl
  have g13 := PySem.W.mg_of X G a13
  have F14 := fun_mk (st := sEndB) l14 c14 k14
  have b14 := F14.binds (ps := ["table", "key"]) fun _ _ _ _ _ _ us hl => match us, hl with | [_, _], _ => rfl
  have g14 := PySem.W.mg_of X G a14
  have F18 := fun_mk (st := sDraws) l18 c18 k18
  have b18 := F18.binds (ps := ["_law_cell"]) fun _ _ _ _ _ _ us hl => match us, hl with | [_], _ => rfl
  have g18 := PySem.W.mg_of X G a18
  have F19 := fun_mk (st := sNext) l19 c19 k19
  have b19 := F19.binds (ps := ["_law_draws_here"]) fun _ _ _ _ _ _ us hl => match us, hl with | [_], _ => rfl
  have g19 := PySem.W.mg_of X G a19
  have F20 := fun_mk (st := sOrder) l20 c20 k20
  have b20 := F20.binds (ps := ["_law_draws_here", "_law_size"]) fun _ _ _ _ _ _ us hl => match us, hl with | [_, _], _ => rfl
  have g20 := PySem.W.mg_of X G a20
  have F22 := fun_mk (st := sNearly) l22 c22 k22
  have b22 := F22.binds (ps := ["_law_draws_here", "_law_some", "_law_kind"]) fun _ _ _ _ _ _ us hl => match us, hl with | [_, _, _], _ => rfl
  have g22 := PySem.W.mg_of X G a22
  have F21 := fun_mk (st := sTable) l21 c21 k21
  have b21 := F21.binds (ps := ["_law_draws_here", "_law_most"]) fun _ _ _ _ _ _ us hl => match us, hl with | [_, _], _ => rfl
  have g21 := PySem.W.mg_of X G a21
  have F23 := fun_mk (st := sWay) l23 c23 k23
  have b23 := F23.binds (ps := ["_law_net", "_law_a_key"]) fun _ _ _ _ _ _ us hl => match us, hl with | [_, _], _ => rfl
  have g23 := PySem.W.mg_of X G a23
  have F24 := fun_mk (st := sKeys) l24 c24 k24
  have b24 := F24.binds (ps := ["_law_net"]) fun _ _ _ _ _ _ us hl => match us, hl with | [_], _ => rfl
  have g24 := PySem.W.mg_of X G a24
  have F25 := fun_mk (st := sWayUp) l25 c25 k25
  have b25 := F25.binds (ps := ["_law_net", "_law_a_key"]) fun _ _ _ _ _ _ us hl => match us, hl with | [_, _], _ => rfl
  have g25 := PySem.W.mg_of X G a25
  have F26 := fun_mk (st := sRight) l26 c26 k26
  have b26 := F26.binds (ps := ["_law_net"]) fun _ _ _ _ _ _ us hl => match us, hl with | [_], _ => rfl
  have g26 := PySem.W.mg_of X G a26
  have F27 := fun_mk (st := sLaw) l27 c27 k27
  have b27 := F27.binds (ps := ["_law_script"]) fun _ _ _ _ _ _ us hl => match us, hl with | [_], _ => rfl
  have g27 := PySem.W.mg_of X G a27
  have b : Bl mg := ⟨PySem.W.mg_none_of X G z0, PySem.W.mg_none_of X G z1, PySem.W.mg_none_of X G z2, PySem.W.mg_none_of X G z3, PySem.W.mg_none_of X G z4, PySem.W.mg_none_of X G z5, PySem.W.mg_none_of X G z6, PySem.W.mg_none_of X G z7, PySem.W.mg_none_of X G z8, PySem.W.mg_none_of X G z9, PySem.W.mg_none_of X G z10, PySem.W.mg_none_of X G z11, PySem.W.mg_none_of X G z12, PySem.W.mg_none_of X G z13⟩
  have lg : ∃ t, mg "LONGEST" = some (.int 8 t) := ⟨tk, PySem.W.mg_of X G aL⟩
  refine ⟨PySem.W.fnOf "law" "law" (defArgs sLaw) (defBody sLaw) (defScope sLaw) .none kV27 dc27 pm27 an27 cd27 ct27, fun s v => .of_eq rfl, fun base _ _ => ?_⟩
  have C5 : Cal l.prog w K mg base 1 "is_whole" sWhole ["thing"] SWhole := ⟨_, _, F5, g5, b5, fWhole (k := 0) F5 b ⟩
  have C15 : Cal l.prog w K mg base 1 "walk" sWalk ["table", "key"] SWalkL := ⟨_, _, F15, g15, b15, fWalkL (k := 0) F15 b ⟩
  have C16 : Cal l.prog w K mg base 1 "turned" sTurned ["table"] STurned := ⟨_, _, F16, g16, b16, fTurned (k := 0) F16 b ⟩
  have C8 : Cal l.prog w K mg base 1 "_is_list_of_lists" sLoL ["thing"] SLoL := ⟨_, _, F8, g8, b8, fLoL (k := 0) F8 b lg⟩
  have C9 : Cal l.prog w K mg base 2 "_is_row" sRow ["row"] SRow := ⟨_, _, F9, g9, b9, fRow (k := 1) F9 b lg C5⟩
  have C6 : Cal l.prog w K mg base 3 "check_table" sCkTab ["table"] SCkTab := ⟨_, _, F6, g6, b6, fCkTab (k := 2) F6 b (C8.mono (by decide)) C9⟩
  have C7 : Cal l.prog w K mg base 2 "check_key" sCkKey ["key"] SCkKey := ⟨_, _, F7, g7, b7, fCkKey (k := 1) F7 b C5⟩
  have C11 : Cal l.prog w K mg base 4 "path" sPath ["table", "key"] SPath := ⟨_, _, F11, g11, b11, fPath (k := 3) F11 b C6 (C7.mono (by decide)) (C15.mono (by decide))⟩
  have C12 : Cal l.prog w K mg base 4 "end" sEnd ["table", "key"] SEnd := ⟨_, _, F12, g12, b12, fEnd (k := 3) F12 b C6 (C7.mono (by decide)) (C15.mono (by decide))⟩
  have C13 : Cal l.prog w K mg base 4 "path_from_below" sPathB ["table", "key"] SPathB := ⟨_, _, F13, g13, b13, fPathB (k := 3) F13 b C6 (C7.mono (by decide)) (C15.mono (by decide)) (C16.mono (by decide))⟩
  have C14 : Cal l.prog w K mg base 4 "end_from_below" sEndB ["table", "key"] SEndB := ⟨_, _, F14, g14, b14, fEndB (k := 3) F14 b C6 (C7.mono (by decide)) (C15.mono (by decide)) (C16.mono (by decide))⟩
  have C18 : Cal l.prog w K mg base 1 "_law_draws" sDraws ["_law_cell"] SDraws := ⟨_, _, F18, g18, b18, fDraws (k := 0) F18 b ⟩
  have C19 : Cal l.prog w K mg base 1 "_law_next" sNext ["_law_draws_here"] SNext := ⟨_, _, F19, g19, b19, fNext (k := 0) F19 b ⟩
  have C20 : Cal l.prog w K mg base 2 "_law_order" sOrder ["_law_draws_here", "_law_size"] SOrder := ⟨_, _, F20, g20, b20, fOrder (k := 1) F20 b C19⟩
  have C22 : Cal l.prog w K mg base 2 "_law_nearly" sNearly ["_law_draws_here", "_law_some", "_law_kind"] SNearly := ⟨_, _, F22, g22, b22, fNearly (k := 1) F22 b C19⟩
  have C21 : Cal l.prog w K mg base 3 "_law_table" sTable ["_law_draws_here", "_law_most"] STable := ⟨_, _, F21, g21, b21, fTable (k := 2) F21 b (C19.mono (by decide)) C20 C22⟩
  have C23 : Cal l.prog w K mg base 1 "_law_way" sWay ["_law_net", "_law_a_key"] SWalk := ⟨_, _, F23, g23, b23, fWay (k := 0) F23 b ⟩
  have C24 : Cal l.prog w K mg base 1 "_law_keys" sKeys ["_law_net"] SKeys := ⟨_, _, F24, g24, b24, fKeys (k := 0) F24 b ⟩
  have C25 : Cal l.prog w K mg base 1 "_law_way_up" sWayUp ["_law_net", "_law_a_key"] SWayUp := ⟨_, _, F25, g25, b25, fWayUp (k := 0) F25 b ⟩
  have C26 : Cal l.prog w K mg base 5 "_law_right" sRight ["_law_net"] SRi := ⟨_, _, F26, g26, b26, fRi (k := 4) F26 b (C24.mono (by decide)) (C23.mono (by decide)) (C25.mono (by decide)) C11 C12 C13 C14⟩
  exact fLaw (k := 5) F27 b (C18.mono (by decide)) (C21.mono (by decide)) C26 (C12.mono (by decide))
end K01
open PySem PySem.W PyProof.Rows
set_option maxHeartbeats 0 in
theorem PySem.Challenge.cw_halftables_k01_paths_and_ends_holds : PySem.Challenge.rw_halftables_k01_paths_and_ends.Holds := by
  w_on; o_law; k_head; (case hw => w_witness2)
  k_fill
  refine G.walkG (l := PySem.Challenge.rw_halftables_k01_paths_and_ends) (n := 63) (k := 6) (x := "_law_script") rfl (by decide) rfl ⟨rfl, by decide, by decide⟩ (fun w h Y => PySem.W.kIn_of Y) ?F
  case F =>
    intro w mg fa h KX G hmg
    refine' K01.all_mk KX G hmg ?aL ?a5 ?l5 ?c5 ?k5 ?a15 ?l15 ?c15 ?k15 ?a16 ?l16 ?c16 ?k16 ?a8 ?l8 ?c8 ?k8 ?a9 ?l9 ?c9 ?k9 ?a6 ?l6 ?c6 ?k6 ?a7 ?l7 ?c7 ?k7 ?a11 ?l11 ?c11 ?k11 ?a12 ?l12 ?c12 ?k12 ?a13 ?l13 ?c13 ?k13 ?a14 ?l14 ?c14 ?k14 ?a18 ?l18 ?c18 ?k18 ?a19 ?l19 ?c19 ?k19 ?a20 ?l20 ?c20 ?k20 ?a22 ?l22 ?c22 ?k22 ?a21 ?l21 ?c21 ?k21 ?a23 ?l23 ?c23 ?k23 ?a24 ?l24 ?c24 ?k24 ?a25 ?l25 ?c25 ?k25 ?a26 ?l26 ?c26 ?k26 ?a27 ?l27 ?c27 ?k27 ?z0 ?z1 ?z2 ?z3 ?z4 ?z5 ?z6 ?z7 ?z8 ?z9 ?z10 ?z11 ?z12 ?z13
    (case aL => k_is)
    (case a5 => k_is); (case l5 => k_is); (case c5 => k_is); (case k5 => k_is)
    (case a15 => k_is); (case l15 => k_is); (case c15 => k_is); (case k15 => k_is)
    (case a16 => k_is); (case l16 => k_is); (case c16 => k_is); (case k16 => k_is)
    (case a8 => k_is); (case l8 => k_is); (case c8 => k_is); (case k8 => k_is)
    (case a9 => k_is); (case l9 => k_is); (case c9 => k_is); (case k9 => k_is)
    (case a6 => k_is); (case l6 => k_is); (case c6 => k_is); (case k6 => k_is)
    (case a7 => k_is); (case l7 => k_is); (case c7 => k_is); (case k7 => k_is)
    (case a11 => k_is); (case l11 => k_is); (case c11 => k_is); (case k11 => k_is)
    (case a12 => k_is); (case l12 => k_is); (case c12 => k_is); (case k12 => k_is)
    (case a13 => k_is); (case l13 => k_is); (case c13 => k_is); (case k13 => k_is)
    (case a14 => k_is); (case l14 => k_is); (case c14 => k_is); (case k14 => k_is)
    (case a18 => k_is); (case l18 => k_is); (case c18 => k_is); (case k18 => k_is)
    (case a19 => k_is); (case l19 => k_is); (case c19 => k_is); (case k19 => k_is)
    (case a20 => k_is); (case l20 => k_is); (case c20 => k_is); (case k20 => k_is)
    (case a22 => k_is); (case l22 => k_is); (case c22 => k_is); (case k22 => k_is)
    (case a21 => k_is); (case l21 => k_is); (case c21 => k_is); (case k21 => k_is)
    (case a23 => k_is); (case l23 => k_is); (case c23 => k_is); (case k23 => k_is)
    (case a24 => k_is); (case l24 => k_is); (case c24 => k_is); (case k24 => k_is)
    (case a25 => k_is); (case l25 => k_is); (case c25 => k_is); (case k25 => k_is)
    (case a26 => k_is); (case l26 => k_is); (case c26 => k_is); (case k26 => k_is)
    (case a27 => k_is); (case l27 => k_is); (case c27 => k_is); (case k27 => k_is)
    (case z0 => k_is); (case z1 => k_is); (case z2 => k_is); (case z3 => k_is); (case z4 => k_is); (case z5 => k_is); (case z6 => k_is); (case z7 => k_is); (case z8 => k_is); (case z9 => k_is); (case z10 => k_is); (case z11 => k_is); (case z12 => k_is); (case z13 => k_is)
