import PyProof.Rows.All
import HandS.ForMost
import HandS.IsInst
import HandS.Style
import HandS.TupAny
import HandS.TupLe
import HandS.Evl
import HandS.Walk
import HandS.ForExc
import HandS.ExcInit
import HandS.ExcField
import HandS.ExcIs
import HandS.TryMany
import KE.KExcIs
import KE.SortData
import KE.GoesMore
import HandS.Deep
import HandS.SetFor
import HandS.SetTxt0
import HandS.OwnEq
import HandS.ExcOwn
import HandS.ExcValue
import HandS.DictComp
import HandS.More
import HandS.Property
import HandS.MakeKwOnly
import HandS.MakeKw
import HandS.ListEq
import HandS.DictEq
import HandS.Wide
import PyProof.DictUpdate
import PyProof.DictDisplay
import PyProof.DictTable
import KE.KDictCopyH
import KE.KEqDict
import HandS.Dict
import Wide.All
import OpenK.AllK
import PyProof.EqAt
import PyProof.EqKinds
import PyProof.TupleCall
import HandS.TupSets
import KE.KDictZip
import KE.KDictKeyed
import HandS.DictTup
import HandS.Zip
import HandS.Star
import HandS.SortKw
import HandS.ClsMeth
import PySem.Challenge.RW_bundlekinds_k22_plain_builders
import HandS.Finally
set_option Elab.async false
set_option linter.all false
set_option maxRecDepth 100000
set_option maxHeartbeats 4000000
namespace Lw
open PySem PySem.Spec PyProof.Rows L2
/-! ### a list's item read for an augmented store -/
theorem pget_list {X : Cx} : PGet X (rIxL X.K) := by
  intro pins s σ H x y v u Q I rx ry h
  obtain ⟨p, xs, i, z, rfl, rfl, hq, he, q⟩ := h
  cases rx
  obtain ⟨t, rfl⟩ := ry
  obtain ⟨its, r, pl, hz⟩ := I.list hq
  obtain ⟨j, h1, h2, h3, h4, h5⟩ := atI_get he
  obtain ⟨w, ew, rw'⟩ := r.get h2
  have hl := r.length
  have hn := line63
  have fin : EP X pins σ Q w s := ⟨z, H, I, rw', q⟩
  by_cases h0 : 0 ≤ i
  · have hj : i.toNat = j := by
      rw [seqIndex_of h0 h5] at h1
      exact Option.some.inj h1
    exact wpAny_getItem_list pl.isList h0 (by omega) (by rw [hj]; simpa using ew) fin
  · have hj : (i + (its.toArray.size : Int)).toNat = j := by
      rw [seqIndex_neg (by omega) h4] at h1
      rw [List.size_toArray, ← hl]
      exact Option.some.inj h1
    exact wpAny_getItem_list_neg pl.isList (by omega) (by rw [List.size_toArray] <;> omega) (by omega) (by rw [hj]; simpa using ew) fin

/-- a constant of the module -/
theorem pe_gv {X : Cx} {x : Str} {pos : Pos} {v : V} (hg : Gl X x) (h : ∃ u, X.mg x = some u ∧ RelV v u) (hd : (x == ("__debug__" : Str)) = false := by decide) : PE X (.Name x pos) (tC v) := by
  obtain ⟨u, h1, h2⟩ := h
  exact pe_glob hg h1 h2 hd
/-! ### data that may be compared -/
def GoodD (n : Nat) (d : PyData) : Prop := d.canLay0 = true ∧ d.depth ≤ n
theorem GoodD.mono {n m : Nat} {d : PyData} (h : GoodD n d) (k : n ≤ m) : GoodD m d := ⟨h.1, Nat.le_trans h.2 k⟩
theorem GoodD.shaped {n : Nat} {d : PyData} (h : GoodD n d) (k : n ≤ 64) : SeqAt.shaped d = true := by
  unfold SeqAt.shaped
  rw [h.1, decide_eq_true (Nat.le_trans h.2 k)]
  rfl
theorem goodAll {n : Nat} : ∀ {ds : List PyData}, (∀ d ∈ ds, GoodD n d) → PyData.canLayAll0 ds = true ∧ PyData.depthAll ds ≤ n
  | [], _ => ⟨rfl, by simp [PyData.depthAll]⟩
  | d :: r, h => by
    obtain ⟨h1, h2⟩ := h d (List.mem_cons_self)
    obtain ⟨r1, r2⟩ := goodAll (ds := r) fun e he => h e (List.mem_cons_of_mem _ he)
    constructor
    · simp [PyData.canLayAll0, h1, r1]
    · simp only [PyData.depthAll]
      omega
theorem good_list {n : Nat} {ds : List PyData} (h : ∀ d ∈ ds, GoodD n d) : GoodD (n + 1) (.list ds) := by
  obtain ⟨a, b⟩ := goodAll h
  exact ⟨by simp [PyData.canLay0, a], by simp only [PyData.depth]; omega⟩
theorem good_tuple {n : Nat} {ds : List PyData} (h : ∀ d ∈ ds, GoodD n d) : GoodD (n + 1) (.tuple ds) := by
  obtain ⟨a, b⟩ := goodAll h
  exact ⟨by simp [PyData.canLay0, a], by simp only [PyData.depth]; omega⟩
theorem good_int {n : Nat} (i : Int) : GoodD n (.int i) := ⟨rfl, by simp [PyData.depth]⟩
theorem good_bool {n : Nat} (i : Bool) : GoodD n (.bool i) := ⟨rfl, by simp [PyData.depth]⟩
theorem good_none {n : Nat} : GoodD n .none := ⟨rfl, by simp [PyData.depth]⟩
/-- a text whose signs are code points -/
def SOk (z : Str) : Prop := ∀ c ∈ z.cps.toList, c < 0x110000
theorem good_str {n : Nat} {z : Str} (h : SOk z) : GoodD n (.str z) := by
  refine ⟨?_, by simp [PyData.depth]⟩
  simp only [PyData.canLay0]
  unfold PyData.strOk
  rw [← Array.all_toList, List.all_eq_true]
  intro c hc
  exact decide_eq_true (h c hc)
theorem dp_map {K : PySem.W.Frag} {H : Hp} {α : Type} {f : α → V} {g : α → PyData} : ∀ {xs : List α}, (∀ x ∈ xs, Dp K H (f x) (g x)) → DpAll K H (xs.map f) (xs.map g)
  | [], _ => .nil
  | x :: r, h => .cons (h x List.mem_cons_self) (dp_map fun y hy => h y (List.mem_cons_of_mem _ hy))
theorem dp_ints {K : PySem.W.Frag} {H : Hp} {a : Addr} {ns : List Int} (h : SqL K H a (ns.map V.int)) : Dp K H (.ref a) (.list (ns.map PyData.int)) := .lst h (dp_map fun x _ => .int x)
theorem dp_strs {K : PySem.W.Frag} {H : Hp} {a : Addr} {ns : List Str} (h : SqL K H a (ns.map V.str)) : Dp K H (.ref a) (.list (ns.map PyData.str)) := .lst h (dp_map fun x _ => .str x)
theorem dp_empty {K : PySem.W.Frag} {H : Hp} {a : Addr} (h : SqL K H a []) : Dp K H (.ref a) (.list []) := .lst h .nil
theorem dp_strsT {K : PySem.W.Frag} {H : Hp} {a : Addr} {ns : List Str} (h : SqT K H a (ns.map V.str)) : Dp K H (.ref a) (.tuple (ns.map PyData.str)) := .tup h (dp_map fun x _ => .str x)
theorem sh_ints (ns : List Int) : SeqAt.shaped (.list (ns.map PyData.int)) = true := PySem.W.ke_shaped_ints ns
theorem sh_empty : SeqAt.shaped (.list []) = true := PySem.W.ke_shaped_ints []
theorem good_strs {ns : List Str} (h : ∀ z ∈ ns, SOk z) : GoodD 1 (.list (ns.map PyData.str)) := good_list (n := 0) fun d hd => by
  obtain ⟨z, hz, rfl⟩ := List.mem_map.mp hd
  exact good_str (h z hz)
theorem good_strsT {ns : List Str} (h : ∀ z ∈ ns, SOk z) : GoodD 1 (.tuple (ns.map PyData.str)) := good_tuple (n := 0) fun d hd => by
  obtain ⟨z, hz, rfl⟩ := List.mem_map.mp hd
  exact good_str (h z hz)
theorem eqv_nil_map {α : Type} (f : α → PyData) (xs : List α) : PyData.eqv (.list (xs.map f)) (.list []) = decide (xs = []) := by
  cases xs with
  | nil => simp [PyData.eqv, PyData.eqvAll]
  | cons x r => simp [PyData.eqv, PyData.eqvAll]
theorem eqvAll_strs : ∀ xs ys : List Str, PyData.eqvAll (xs.map PyData.str) (ys.map PyData.str) = decide (xs = ys)
  | [], [] => by simp [PyData.eqvAll]
  | [], _ :: _ => by simp [PyData.eqvAll]
  | _ :: _, [] => by simp [PyData.eqvAll]
  | x :: r, y :: t => by
    simp only [List.map_cons, PyData.eqvAll, PyData.eqv, eqvAll_strs r t]
    by_cases h : x = y <;> by_cases h' : r = t <;> simp [h, h']
theorem eqv_strs (xs ys : List Str) : PyData.eqv (.list (xs.map PyData.str)) (.list (ys.map PyData.str)) = decide (xs = ys) := by
  simp only [PyData.eqv, eqvAll_strs]
theorem eqv_strsT (xs ys : List Str) : PyData.eqv (.tuple (xs.map PyData.str)) (.tuple (ys.map PyData.str)) = decide (xs = ys) := by
  simp only [PyData.eqv, eqvAll_strs]

/-! ### the drawing state: at st the list of the big cells (at q), the cells (at r), the counter -/
structure DX (H : Hp) (st q r : Addr) (bs cs : List Int) (c : Int) : Prop where
  st' : H st = some (.lst [.ref q, .ref r, .int c])
  q' : H q = some (.lst (bs.map V.int))
  r' : H r = some (.lst (cs.map V.int))
  qr : q ≠ r
  qs : q ≠ st
  rs : r ≠ st
theorem DX.new {H : Hp} {st q r p : Addr} {bs cs : List Int} {c : Int} {o : HO} (D : DX H st q r bs cs c) (h : H p = none) : DX (upd H p o) st q r bs cs c :=
  ⟨(upd_ne (ne_of_none D.st' h)).trans D.st', (upd_ne (ne_of_none D.q' h)).trans D.q', (upd_ne (ne_of_none D.r' h)).trans D.r', D.qr, D.qs, D.rs⟩
theorem DX.count {H : Hp} {st q r : Addr} {bs cs : List Int} {c d : Int} (D : DX H st q r bs cs c) : DX (upd H st (.lst [.ref q, .ref r, .int d])) st q r bs cs d :=
  ⟨upd_same, (upd_ne D.qs).trans D.q', (upd_ne D.rs).trans D.r', D.qr, D.qs, D.rs⟩
theorem DX.swap {H : Hp} {st q r p : Addr} {bs cs ds : List Int} {c : Int} (D : DX H st q r bs cs c) (h : H p = none) : DX (upd (upd H p (.lst (ds.map V.int))) st (.lst [.ref p, .ref r, .int c])) st p r ds cs c := by
  have h1 := ne_of_none D.st' h
  have h2 := ne_of_none D.r' h
  exact ⟨upd_same, (upd_ne h1.symm).trans upd_same, (upd_ne D.rs).trans ((upd_ne h2).trans D.r'), h2.symm, h1.symm, D.rs⟩
theorem DX.own {H : Hp} {st q r : Addr} {bs cs ds : List Int} {c : Int} (D : DX H st q r bs cs c) : DX (upd H q (.lst (ds.map V.int))) st q r ds cs c :=
  ⟨(upd_ne D.qs.symm).trans D.st', upd_same, (upd_ne D.qr.symm).trans D.r', D.qr, D.qs, D.rs⟩
/-- .. its counter at most n -/
def DS (H : Hp) (st : Addr) (n : Nat) : Prop := ∃ (q r : Addr) (bs cs : List Int) (c : Int), DX H st q r bs cs c ∧ (∀ b ∈ bs, 0 ≤ b) ∧ cs ≠ [] ∧ 0 ≤ c ∧ c ≤ n
/-- b holds o, apart from the drawing state -/
def Ap (H : Hp) (st b : Addr) (o : HO) : Prop := H b = some o ∧ b ≠ st ∧ ∀ l, H st = some (.lst l) → V.ref b ∉ l
theorem ap_iff {H : Hp} {st q r b : Addr} {bs cs : List Int} {c : Int} {o : HO} (D : DX H st q r bs cs c) : Ap H st b o ↔ (H b = some o ∧ b ≠ st ∧ b ≠ q ∧ b ≠ r) := by
  constructor
  · rintro ⟨e, n, h⟩
    have := h _ D.st'
    simp only [List.mem_cons, V.ref.injEq, List.not_mem_nil, or_false, not_or] at this
    exact ⟨e, n, this.1, this.2.1⟩
  · rintro ⟨e, n, h1, h2⟩
    refine ⟨e, n, fun l hl => ?_⟩
    rw [D.st'] at hl
    cases hl
    simp only [List.mem_cons, V.ref.injEq, List.not_mem_nil, or_false, not_or]
    exact ⟨h1, h2, fun z => nomatch z⟩
/-- what stands apart from the drawing state stays -/
def Kp (st : Addr) (H H' : Hp) : Prop := ∀ b o, Ap H st b o → Ap H' st b o
theorem Kp.refl (st : Addr) (H : Hp) : Kp st H H := fun _ _ h => h
theorem Kp.trans {st : Addr} {H H1 H2 : Hp} (a : Kp st H H1) (b : Kp st H1 H2) : Kp st H H2 := fun c o h => b c o (a c o h)
theorem Kp.dx {st q r q' r' : Addr} {H H' : Hp} {bs cs bs' cs' : List Int} {c c' : Int} (D : DX H st q r bs cs c) (D' : DX H' st q' r' bs' cs' c') (h : ∀ b o, H b = some o → b ≠ st → b ≠ q → b ≠ r → H' b = some o ∧ b ≠ q' ∧ b ≠ r') : Kp st H H' := fun b o a => by
  obtain ⟨e, n, n1, n2⟩ := (ap_iff D).mp a
  obtain ⟨e', m1, m2⟩ := h b o e n n1 n2
  exact (ap_iff D').mpr ⟨e', n, m1, m2⟩
theorem DX.newK {H : Hp} {st q r p : Addr} {bs cs : List Int} {c : Int} {o : HO} (D : DX H st q r bs cs c) (h : H p = none) : Kp st H (upd H p o) :=
  Kp.dx D (D.new h) fun b u e _ n1 n2 => ⟨(upd_ne (ne_of_none e h)).trans e, n1, n2⟩
theorem DX.ownK {H : Hp} {st q r : Addr} {bs cs ds : List Int} {c : Int} (D : DX H st q r bs cs c) : Kp st H (upd H q (.lst (ds.map V.int))) :=
  Kp.dx D D.own fun b u e _ n1 n2 => ⟨(upd_ne n1).trans e, n1, n2⟩
theorem DX.countK {H : Hp} {st q r : Addr} {bs cs : List Int} {c d : Int} (D : DX H st q r bs cs c) : Kp st H (upd H st (.lst [.ref q, .ref r, .int d])) :=
  Kp.dx D D.count fun b u e n n1 n2 => ⟨(upd_ne n).trans e, n1, n2⟩
theorem DX.swapK {H : Hp} {st q r p : Addr} {bs cs ds : List Int} {c : Int} (D : DX H st q r bs cs c) (h : H p = none) : Kp st H (upd (upd H p (.lst (ds.map V.int))) st (.lst [.ref p, .ref r, .int c])) :=
  Kp.dx D (D.swap h) fun b u e n n1 n2 => ⟨(upd_ne n).trans ((upd_ne (ne_of_none e h)).trans e), ne_of_none e h, n2⟩
theorem DS.new {H : Hp} {st p : Addr} {n : Nat} {o : HO} (D : DS H st n) (h : H p = none) : DS (upd H p o) st n := by
  obtain ⟨q, r, bs, cs, c, d, h1, h2, h3, h4⟩ := D
  exact ⟨q, r, bs, cs, c, d.new h, h1, h2, h3, h4⟩
theorem DS.newK {H : Hp} {st p : Addr} {n : Nat} {o : HO} (D : DS H st n) (h : H p = none) : Kp st H (upd H p o) := by
  obtain ⟨q, r, bs, cs, c, d, h1, h2, h3, h4⟩ := D
  exact d.newK h
theorem DS.mono {H : Hp} {st : Addr} {n m : Nat} (D : DS H st n) (h : n ≤ m) : DS H st m := by
  obtain ⟨q, r, bs, cs, c, d, h1, h2, h3, h4⟩ := D
  exact ⟨q, r, bs, cs, c, d, h1, h2, h3, by omega⟩
/-- a new object stands apart -/
theorem DS.fresh {H : Hp} {st p : Addr} {n : Nat} {o : HO} (D : DS H st n) (h : H p = none) : Ap (upd H p o) st p o := by
  obtain ⟨q, r, bs, cs, c, d, h1, h2, h3, h4⟩ := D
  exact (ap_iff (d.new h)).mpr ⟨upd_same, (ne_of_none d.st' h).symm, (ne_of_none d.q' h).symm, (ne_of_none d.r' h).symm⟩
/-- an object that stands apart is stored to -/
theorem DS.put {H : Hp} {st b : Addr} {n : Nat} {o u : HO} (D : DS H st n) (a : Ap H st b o) : DS (upd H b u) st n := by
  obtain ⟨q, r, bs, cs, c, d, h1, h2, h3, h4⟩ := D
  obtain ⟨e, n1, n2, n3⟩ := (ap_iff d).mp a
  exact ⟨q, r, bs, cs, c, ⟨(upd_ne n1.symm).trans d.st', (upd_ne n2.symm).trans d.q', (upd_ne n3.symm).trans d.r', d.qr, d.qs, d.rs⟩, h1, h2, h3, h4⟩
theorem DS.putA {H : Hp} {st b : Addr} {n : Nat} {o u : HO} (D : DS H st n) (a : Ap H st b o) : Ap (upd H b u) st b u := by
  obtain ⟨q, r, bs, cs, c, d, h1, h2, h3, h4⟩ := D
  obtain ⟨e, n1, n2, n3⟩ := (ap_iff d).mp a
  have d' : DX (upd H b u) st q r bs cs c := ⟨(upd_ne n1.symm).trans d.st', (upd_ne n2.symm).trans d.q', (upd_ne n3.symm).trans d.r', d.qr, d.qs, d.rs⟩
  exact (ap_iff d').mpr ⟨upd_same, n1, n2, n3⟩
theorem Ap.put {H : Hp} {st b p : Addr} {n : Nat} {o u v : HO} (D : DS H st n) (a : Ap H st b o) (h : Ap H st p v) (ne : p ≠ b) : Ap (upd H b u) st p v := by
  obtain ⟨q, r, bs, cs, c, d, h1, h2, h3, h4⟩ := D
  obtain ⟨e, n1, n2, n3⟩ := (ap_iff d).mp a
  obtain ⟨f, m1, m2, m3⟩ := (ap_iff d).mp h
  have d' : DX (upd H b u) st q r bs cs c := ⟨(upd_ne n1.symm).trans d.st', (upd_ne n2.symm).trans d.q', (upd_ne n3.symm).trans d.r', d.qr, d.qs, d.rs⟩
  exact (ap_iff d').mpr ⟨(upd_ne ne).trans f, m1, m2, m3⟩
end Lw

namespace Lw
open PySem PySem.Spec PyProof.Rows L2 Evl
section
variable {K : PySem.W.Frag} {σ : L2.St} {H H' : Hp} {ta tb tc te tl : TE} {t u : TT} {x y z v : V} {r r' : R2}
theorem ev_chain {a b : Bool} (ha : Ev ta σ H x) (hb : Ev tb σ H y) (h1 : RV r x y H (.bl a)) (hc : a = true → Ev tc σ H z) (h2 : a = true → RV r' y z H (.bl b)) : Ev (tChain r r' ta tb tc) σ H (.bl (a && b)) := fun H1 e Q q =>
  ha H1 e _ fun H2 e2 => hb H2 (e.trans e2) _ fun H3 e3 => h1 H3 ((e.trans e2).trans e3) _ fun H4 e4 => ⟨a, rfl, by
    cases a with
    | true =>
      exact hc rfl H4 (((e.trans e2).trans e3).trans e4) _ fun H5 e5 => h2 rfl H5 ((((e.trans e2).trans e3).trans e4).trans e5) Q fun H6 e6 => q H6 ((((e2.trans e3).trans e4).trans e5).trans e6)
    | false => exact q H4 ((e2.trans e3).trans e4)⟩
theorem rc_lenStr {z : Str} (h : z.length ≤ sizeLine) : RC (fun xs H Q => ∃ z, xs = [.str z] ∧ z.length ≤ sizeLine ∧ Q (.int z.length) H) [.str z] H (.int z.length) := fun H1 _ _ q => ⟨z, rfl, h, q H1 (Ex.refl H1)⟩
theorem rc_lenL {p : Addr} {xs : List V} (h : SqL K H p xs) : RC (fun xs H Q => ∃ p ys, xs = [.ref p] ∧ (SqL K H p ys ∨ SqT K H p ys) ∧ Q (.int ys.length) H) [.ref p] H (.int (xs.length : Int)) := fun H1 e _ q => ⟨p, xs, rfl, .inl (ex_l e h), q H1 (Ex.refl H1)⟩
theorem rc_lenT {p : Addr} {xs : List V} (h : SqT K H p xs) : RC (fun xs H Q => ∃ p ys, xs = [.ref p] ∧ (SqL K H p ys ∨ SqT K H p ys) ∧ Q (.int ys.length) H) [.ref p] H (.int (xs.length : Int)) := fun H1 e _ q => ⟨p, xs, rfl, .inr (ex_t e h), q H1 (Ex.refl H1)⟩
theorem rc_int {i : Int} : RC (fun xs H Q => (∃ i, xs = [.int i] ∧ Q (.int i) H) ∨ ∃ k, xs = [.bl k] ∧ Q (.int (if k then 1 else 0)) H) [.int i] H (.int i) := fun H1 _ _ q => .inl ⟨i, rfl, q H1 (Ex.refl H1)⟩
theorem rc_intB {k : Bool} : RC (fun xs H Q => (∃ i, xs = [.int i] ∧ Q (.int i) H) ∨ ∃ k, xs = [.bl k] ∧ Q (.int (if k then 1 else 0)) H) [.bl k] H (.int (if k then 1 else 0)) := fun H1 _ _ q => .inr ⟨k, rfl, q H1 (Ex.refl H1)⟩
theorem rv_sign {c : Nat} {z : Str} : RV (fun x y H Q => ∃ (c : Nat) (z : Str), x = .str ⟨#[c]⟩ ∧ y = .str z ∧ Q (.bl (decide (c ∈ z.cps.toList))) H) (.str ⟨#[c]⟩) (.str z) H (.bl (decide (c ∈ z.cps.toList))) := fun H1 _ _ q => ⟨c, z, rfl, rfl, q H1 (Ex.refl H1)⟩
theorem rv_nsign {c : Nat} {z : Str} : RV (fun x y H Q => ∃ (c : Nat) (z : Str), x = .str ⟨#[c]⟩ ∧ y = .str z ∧ Q (.bl (!decide (c ∈ z.cps.toList))) H) (.str ⟨#[c]⟩) (.str z) H (.bl (!decide (c ∈ z.cps.toList))) := fun H1 _ _ q => ⟨c, z, rfl, rfl, q H1 (Ex.refl H1)⟩
theorem rv_addS {a b : Str} (h : a.length + b.length ≤ sizeLine) : RV (fun x y H Q => ∃ i j, x = .str i ∧ y = .str j ∧ i.length + j.length ≤ sizeLine ∧ Q (.str (i ++ j)) H) (.str a) (.str b) H (.str (a ++ b)) := fun H1 _ _ q => ⟨a, b, rfl, rfl, h, q H1 (Ex.refl H1)⟩
/-- a call one of whose arguments is a new list -/
theorem ev_cbL {r : List V → Hp → VK → Prop} {xs : List V} (h : EvL ta σ H xs) (hr : ∀ p H1, H1 p = some (.lst xs) → Ex H H1 → RC r [.ref p] H1 z) : Ev (tCB r (tCons ta tNil)) σ H z := fun H1 e Q q =>
  h H1 e _ fun p H2 _ e2 hp => hr p H2 hp (e.trans e2) H2 (Ex.refl H2) Q fun H3 e3 => q H3 (e2.trans e3)
theorem rc_all {p : Addr} {bs : List Bool} (h : SqL K H p (bs.map V.bl)) : RC (rAll K) [.ref p] H (.bl (bs.all id)) := fun H1 e _ q => ⟨p, bs, rfl, ex_l e h, q H1 (Ex.refl H1)⟩
theorem rv_eqD {d e : PyData} (hx : ∀ H1, Ex H H1 → Dp K H1 x d) (hy : ∀ H1, Ex H H1 → Dp K H1 y e) (sd : SeqAt.shaped d = true) (se : SeqAt.shaped e = true) : RV (rEqD K) x y H (.bl (PyData.eqv d e)) := fun H1 k _ q => ⟨d, e, hx H1 k, hy H1 k, sd, se, q H1 (Ex.refl H1)⟩
theorem rv_neD {d e : PyData} (hx : ∀ H1, Ex H H1 → Dp K H1 x d) (hy : ∀ H1, Ex H H1 → Dp K H1 y e) (sd : SeqAt.shaped d = true) (se : SeqAt.shaped e = true) : RV (rNeD K) x y H (.bl (!PyData.eqv d e)) := fun H1 k _ q => ⟨d, e, hx H1 k, hy H1 k, sd, se, q H1 (Ex.refl H1)⟩
end
/-! ### comprehensions by lists -/
theorem given_list {α : Type} (p : α → Bool) (g : α → V) (xs : List α) : given xs.length (fun i => (xs[i]?.map p).getD false) (fun i => (xs[i]?.map g).getD .non) = (xs.filter p).map g := by
  have key : ∀ n, n ≤ xs.length → given n (fun i => (xs[i]?.map p).getD false) (fun i => (xs[i]?.map g).getD .non) = ((xs.take n).filter p).map g := by
    intro n
    induction n with
    | zero => intro _; rfl
    | succ n ih =>
      intro hn
      have hx : xs[n]? = some xs[n] := List.getElem?_eq_getElem (by omega)
      cases hp : p xs[n] with
      | true =>
        rw [given_yes (by rw [hx]; exact hp), ih (by omega), List.take_add_one, hx, List.filter_append, List.map_append]
        simp [hp, hx]
      | false =>
        rw [given_no (by rw [hx]; exact hp), ih (by omega), List.take_add_one, hx, List.filter_append, List.map_append]
        simp [hp, hx]
  rw [key _ (Nat.le_refl _), List.take_length]
section
variable {K : PySem.W.Frag} {σ : L2.St} {H H' : Hp} {ta tb tc te tl : TE} {t u : TT} {x y z v : V} {r r' : R2}
theorem cw_it {J : It} {n : Nat} {G : Hp → Prop} {Y : Nat → Hp → V → Hp → Prop} (w : Walk J n G Y) {H : Hp} {j : Nat} {vs : List Nat} (f : Nat → Bool) (v : Nat → V) (val : Nat → V) {Dl : Addr} (hD : H Dl = none) (hn : n ≤ 40000) (hG : ∀ H1, Ex H H1 → G H1)
    (hY : ∀ i H1 x H2, Ex H H1 → i < n → Y i H1 x H2 → H2 = H1 ∧ x = val i)
    (hw : ∀ x, wipe ((wipe σ vs).set j (some x)) vs = wipe σ vs)
    (ht : ∀ (i : Nat), i < n → EvT t ((wipe σ vs).set j (some (val i))) H (f i)) (he : ∀ (i : Nat), i < n → f i = true → Ev te ((wipe σ vs).set j (some (val i))) H (v i)) {Qd : Hp → Prop} (hd : ∀ H1, Cw H f v Dl n H1 → Qd H1) :
    ∃ W : Nat → Nat → Hp → Prop, (∃ m, W 0 m (upd H Dl (.lst []))) ∧ ∀ i m H, W i m H →
      (J.stop i H ∧ Qd H) ∨ (J.go i H ∧ ∃ Nx : Hp → Prop, (∀ H', Nx H' → ∃ m', m' < m ∧ W (i + 1) m' H') ∧ ∀ x H', J.yld i H x H' → (gName j) x (wipe σ vs) H' fun σ2 H2 => wipe σ2 vs = wipe σ vs ∧ t σ2 H2 fun b H3 =>
        if b = true then te σ2 H3 fun y H4 => ∃ acc, H4 Dl = some (.lst acc) ∧ acc.length < sizeLine ∧ Nx (upd H4 Dl (.lst (acc ++ [y]))) else Nx H3) :=
  lc_it w (Cw H f v Dl) ⟨hD, Ex.new hD, upd_same⟩ (fun i H1 _ p => hG H1 p.2.1) (fun i x H1 H2 hi p y => by
    obtain ⟨rfl, rfl⟩ := hY i H1 x H2 p.2.1 hi y
    exact ⟨hw _, cw_turn p (by omega) (ht i hi) (he i hi)⟩) hd
/-- over a text -/
theorem el_lcS {j : Nat} {vs : List Nat} {z : Str} (p : Nat → Bool) (g : Nat → V) (h : Ev tl σ H (.str z)) (hz : z.length ≤ 40000) (hw : ∀ x, wipe ((wipe σ vs).set j (some x)) vs = wipe σ vs)
    (ht : ∀ (c : Nat) H1, Ex H H1 → c ∈ z.cps.toList → EvT t ((wipe σ vs).set j (some (.str ⟨#[c]⟩))) H1 (p c)) (he : ∀ (c : Nat) H1, Ex H H1 → c ∈ z.cps.toList → p c = true → Ev te ((wipe σ vs).set j (some (.str ⟨#[c]⟩))) H1 (g c)) :
    EvL (tLc (iStr tl) (gName j) t te vs) σ H ((z.cps.toList.filter p).map g) := fun H0 e Q q => h H0 e _ fun H1 e1 => ⟨z, rfl, fun Dl hD => by
  have hs : z.cps.size = z.cps.toList.length := by simp
  have hat : ∀ i, i < z.cps.size → ∃ c, z.cps.toList[i]? = some c ∧ z.cps[i]? = some c ∧ c ∈ z.cps.toList := fun i hi => by
    have h1 : z.cps.toList[i]? = some z.cps.toList[i] := List.getElem?_eq_getElem (by omega)
    exact ⟨_, h1, by simpa using h1, List.getElem_mem _⟩
  have gl := given_list p g z.cps.toList
  refine cw_it walk_str (fun i => (z.cps.toList[i]?.map p).getD false) (fun i => (z.cps.toList[i]?.map g).getD .non) (fun i => .str ⟨#[(z.cps.toList[i]?).getD 0]⟩) hD hz (fun _ _ => trivial) (fun i H2 x H3 _ hi y => ?_) hw (fun i hi => ?_) (fun i hi hf => ?_) (fun H2 k => ?_)
  · obtain ⟨rfl, c, hc, rfl⟩ := y
    obtain ⟨c', h1, h2, _⟩ := hat i hi
    rw [hc] at h2
    cases h2
    rw [h1]
    exact ⟨rfl, rfl⟩
  · obtain ⟨c, h1, _, hm⟩ := hat i hi
    rw [h1]
    exact ht c H1 (e.trans e1) hm
  · obtain ⟨c, h1, _, hm⟩ := hat i hi
    rw [h1] at hf ⊢
    exact he c H1 (e.trans e1) hm hf
  · refine q Dl H2 (fresh_back e1 k.1) (e1.trans k.2.1) ?_
    rw [← gl, ← hs]
    exact k.2.2⟩
/-- over a list -/
theorem el_lcM {α : Type} {j : Nat} {vs : List Nat} {a : Addr} {xs : List α} {cv : α → V} (p : α → Bool) (g : α → V) (h : Ev tl σ H (.ref a)) (hx : SqL K H a (xs.map cv)) (hz : xs.length ≤ 40000) (hw : ∀ x, wipe ((wipe σ vs).set j (some x)) vs = wipe σ vs)
    (ht : ∀ (c : α) H1, Ex H H1 → c ∈ xs → EvT t ((wipe σ vs).set j (some (cv c))) H1 (p c)) (he : ∀ (c : α) H1, Ex H H1 → c ∈ xs → p c = true → Ev te ((wipe σ vs).set j (some (cv c))) H1 (g c)) :
    EvL (tLc (iList K tl) (gName j) t te vs) σ H ((xs.filter p).map g) := fun H0 e Q q => h H0 e _ fun H1 e1 => ⟨a, rfl, ⟨_, ex_l (e.trans e1) hx⟩, fun Dl hD => by
  have hat : ∀ i, i < xs.length → ∃ c, xs[i]? = some c ∧ (xs.map cv)[i]? = some (cv c) ∧ c ∈ xs := fun i hi => by
    have h1 : xs[i]? = some xs[i] := List.getElem?_eq_getElem hi
    exact ⟨_, h1, by rw [List.getElem?_map, h1]; rfl, List.getElem_mem _⟩
  have gl := given_list p g xs
  have hl : (xs.map cv).length = xs.length := List.length_map ..
  refine cw_it (n := (xs.map cv).length) (walk_list (xs := xs.map cv)) (fun i => (xs[i]?.map p).getD false) (fun i => (xs[i]?.map g).getD .non) (fun i => ((xs.map cv)[i]?).getD .non) hD (by omega) (fun H2 e2 => ex_l ((e.trans e1).trans e2) hx) (fun i H2 x H3 _ hi y => ?_) hw (fun i hi => ?_) (fun i hi hf => ?_) (fun H2 k => ?_)
  · obtain ⟨rfl, hc⟩ := y
    rw [hc]
    exact ⟨rfl, rfl⟩
  · obtain ⟨c, h1, h2, hm⟩ := hat i (by omega)
    rw [h1, h2]
    exact ht c H1 (e.trans e1) hm
  · obtain ⟨c, h1, h2, hm⟩ := hat i (by omega)
    rw [h1] at hf ⊢
    rw [h2]
    exact he c H1 (e.trans e1) hm hf
  · refine q Dl H2 (fresh_back e1 k.1) (e1.trans k.2.1) ?_
    rw [← gl, ← hl]
    exact k.2.2⟩
/-- over a tuple -/
theorem el_lcT {α : Type} {j : Nat} {vs : List Nat} {a : Addr} {xs : List α} {cv : α → V} (p : α → Bool) (g : α → V) (h : Ev tl σ H (.ref a)) (hx : SqT K H a (xs.map cv)) (hz : xs.length ≤ 40000) (hw : ∀ x, wipe ((wipe σ vs).set j (some x)) vs = wipe σ vs)
    (ht : ∀ (c : α) H1, Ex H H1 → c ∈ xs → EvT t ((wipe σ vs).set j (some (cv c))) H1 (p c)) (he : ∀ (c : α) H1, Ex H H1 → c ∈ xs → p c = true → Ev te ((wipe σ vs).set j (some (cv c))) H1 (g c)) :
    EvL (tLc (iTup K tl) (gName j) t te vs) σ H ((xs.filter p).map g) := fun H0 e Q q => h H0 e _ fun H1 e1 => ⟨a, rfl, ⟨_, ex_t (e.trans e1) hx⟩, fun Dl hD => by
  have hat : ∀ i, i < xs.length → ∃ c, xs[i]? = some c ∧ (xs.map cv)[i]? = some (cv c) ∧ c ∈ xs := fun i hi => by
    have h1 : xs[i]? = some xs[i] := List.getElem?_eq_getElem hi
    exact ⟨_, h1, by rw [List.getElem?_map, h1]; rfl, List.getElem_mem _⟩
  have gl := given_list p g xs
  have hl : (xs.map cv).length = xs.length := List.length_map ..
  refine cw_it (n := (xs.map cv).length) (walk_tup (xs := xs.map cv)) (fun i => (xs[i]?.map p).getD false) (fun i => (xs[i]?.map g).getD .non) (fun i => ((xs.map cv)[i]?).getD .non) hD (by omega) (fun H2 e2 => ex_t ((e.trans e1).trans e2) hx) (fun i H2 x H3 _ hi y => ?_) hw (fun i hi => ?_) (fun i hi hf => ?_) (fun H2 k => ?_)
  · obtain ⟨rfl, hc⟩ := y
    rw [hc]
    exact ⟨rfl, rfl⟩
  · obtain ⟨c, h1, h2, hm⟩ := hat i (by omega)
    rw [h1, h2]
    exact ht c H1 (e.trans e1) hm
  · obtain ⟨c, h1, h2, hm⟩ := hat i (by omega)
    rw [h1] at hf ⊢
    rw [h2]
    exact he c H1 (e.trans e1) hm hf
  · refine q Dl H2 (fresh_back e1 k.1) (e1.trans k.2.1) ?_
    rw [← gl, ← hl]
    exact k.2.2⟩
theorem et_yes : EvT tYes σ H true := fun H1 _ _ q => q H1 (Ex.refl H1)
end
end Lw

namespace Lw
open PySem PySem.Spec PyProof.Rows L2
section
variable {X : Cx} {CX : CXT} {E : XK} {k : Nat} {f : Addr} {fd : FuncData} {ps ks : List Str} {sp : Sp} {x : Str} {kws : List Keyword} {tk : TA} {p pos : Pos} {g : List Value → List Value → List Value} {gV : List V → List V → List V}
/-- f(k = v, ..) -/
theorem pe_callK0 (F : FnOk X.prog X.w X.K X.mg X.base CX k f fd ps sp) (hr : Room k X.A) (hg : Gl X x) (hm : X.mg x = some (.ref f)) (hk : PySem.W.keepIn X.K (.ref f) = true) (hb : KBinds X.K fd ps ks g gV) (hx : Passes CX X E)
    (hkw : PK X kws tk) (hall : (backToKw pos (keywordEach kws X.env)).all (·.1.isSome) = true := by rfl) (hks : (backToKw pos (keywordEach kws X.env)).filterMap (·.1) = ks := by rfl)
    (hdb : (x == ("__debug__" : Str)) = false := by decide)
    (hpl : ((backTo pos (starEach [] X.env)).any (·.1) || (backToKw pos (keywordEach kws X.env)).any (·.1.isNone)) = false := by rfl) :
    PE X (.Call (.Name x p) [] kws pos) (tCallK sp gV E tNil tk) := by
  refine ⟨fun pins s σ H Q I h => ?_⟩
  refine wpAny_Call_Name_kw (ld_glob I hg hm ?_ hdb)
  refine PySem.W.callWith_KW0 (h₀ := X.base) I.ok.mod.kin hk hall ?_ hpl
  refine thn (hkw.run pos pins s σ H _ I h) fun ws s2 ⟨zs, H2, I2, rz, q2⟩ => ⟨I2.kIn, ?_⟩
  rw [hks]
  exact run_fnk (us := []) (vs := []) F hr hb hx I2 .nil rz q2
end
section
variable {X : Cx}
def revS (z : Str) : Str := ⟨z.cps.toList.reverse.toArray⟩
theorem revS_len (z : Str) : (revS z).length = z.length := by simp [revS, Str.length]
def tRevS (te : TE) : TE := fun σ H Q => te σ H fun x H1 => ∃ z, x = .str z ∧ z.length ≤ sizeLine ∧ Q (.str (revS z)) H1
theorem pe_revS {e : Expr} {te : TE} {k : Nat} {p1 p2 p3 pos : Pos} (he : PE X e te) : PE X (.Subscript e (.Slice none none (some (.UnaryOp .USub (.Constant (.int 1) k p1) p2)) p3) pos) (tRevS te) := by
  refine ⟨fun pins s σ H Q I h => ?_⟩
  refine Subscript_ (thn (he.run pins s σ H _ I h) fun v s1 ⟨x, H1, I1, r1, q1⟩ => ?_)
  obtain ⟨z, ex, hz, q⟩ := q1
  subst ex
  obtain ⟨t, rfl⟩ := r1
  have hst : PO X (some (.UnaryOp .USub (.Constant (.int 1) k p1) p2)) (tPart (tUn (rU fun i => .int (-i)) (tC (.int 1)))) := po_some (pe_un un_neg pe_int)
  refine wpAny_Slice (thn (po_none.run pins s1 σ H1 (fun o H2 => o = none ∧ H2 = H1) I1 ⟨rfl, rfl⟩) fun vl s2 ⟨l, H2, I2, pl, el, e2⟩ => ?_)
  subst el e2
  refine thn (po_none.run pins s2 σ H2 (fun o H3 => o = none ∧ H3 = H2) I2 ⟨rfl, rfl⟩) fun vu s3 ⟨u, H3, I3, pu, eu, e3⟩ => ?_
  subst eu e3
  refine thn (hst.run pins s3 σ H3 (fun o H4 => o = some (-1) ∧ H4 = H3) I3 ⟨1, rfl, -1, rfl, rfl, rfl⟩) fun vs s4 ⟨o, H4, I4, ps, eo, e4⟩ => ?_
  subst eo e4
  have I5 : Inv X pins σ H4 { s4 with heap := s4.heap.push { cls := .type "slice", data := .fields #[vl, vu, vs] } } := I4.kept (t' := s4.toks) fun b ob q => Heap.get?_push_of_some _ q
  cases pl
  cases pu
  cases ps with
  | int _ tk =>
    show wpAny (model X.prog X.w) X.A (subscriptTail e (.Slice none none (some (.UnaryOp .USub (.Constant (.int 1) k p1) p2)) p3) (.str z t) (.ref s4.heap.objs.size)) (EP X pins σ Q) X.xe { s4 with heap := s4.heap.push { cls := .type "slice", data := .fields #[.none, .none, .int (-1) tk] } }
    refine tail_any (ops := [.str z t, .ref s4.heap.objs.size]) (typeIs_str _ _ _) F.slot_str_getitem.lookup ?_ (by with_unfolding_all rfl)
    refine wpAny_getItem_str_slice (l := none) (u := none) (st := some (-1, tk)) ⟨_, Heap.get?_push_size _ rfl, rfl, rfl⟩ rfl ?_
    have hm : sliceMade z t none none (some (-1, tk)) = .str (revS z) := by
      unfold sliceMade
      rw [if_neg (by simp)]
      show Made.str ⟨((Builtin.Str.strSliceIndices none none (-1) z.length).filterMap (z.cps[·]?)).toArray⟩ = Made.str (revS z)
      rw [picked_rev, PySem.W.krv_range, List.filterMap_reverse]
      show Made.str ⟨(((List.range z.cps.size).filterMap (z.cps[·]?)).reverse).toArray⟩ = _
      rw [PySem.W.krv_all]
      rfl
    rw [hm]
    refine ⟨by rw [revS_len]; exact hz, .str _, H4, I5.tok _, ⟨_, rfl⟩, q⟩
end
end Lw
namespace Lw
open PySem PySem.Spec PyProof.Rows L2
theorem joinL_nil : ∀ ps : List (List Nat), TL.joinL [] ps = ps.flatten
  | [] => rfl
  | [p] => by simp [TL.joinL]
  | p :: q :: r => by
    show p ++ ([] ++ TL.joinL [] (q :: r)) = _
    rw [joinL_nil (q :: r)]
    simp
theorem join0 (zs : List Str) : (Txt.join "" zs).cps.toList = (zs.map fun z => z.cps.toList).flatten := by
  rw [TL.join_eq]
  show TL.tl (Str.join "" zs) = _
  rw [TL.tl_join, show TL.tl ("" : Str) = [] by decide +kernel]
  exact joinL_nil _
theorem len_tl (z : Str) : z.length = z.cps.toList.length := by simp [Str.length]
theorem sok_append {a b : Str} (ha : SOk a) (hb : SOk b) : SOk (a ++ b) := by
  intro c hc
  rw [show (a ++ b).cps.toList = a.cps.toList ++ b.cps.toList from TL.tl_append a b] at hc
  rcases List.mem_append.mp hc with h | h
  · exact ha c h
  · exact hb c h
theorem len_append (a b : Str) : (a ++ b).length = a.length + b.length := by
  rw [len_tl, len_tl, len_tl, show (a ++ b).cps.toList = a.cps.toList ++ b.cps.toList from TL.tl_append a b, List.length_append]
theorem sok_rev {a : Str} (ha : SOk a) : SOk (revS a) := by
  intro c hc
  refine ha c ?_
  simpa [revS] using hc
/-- signs: texts of one code -/
def Sg (z : Str) : Prop := z.length = 1 ∧ SOk z
theorem join_sg {zs : List Str} (h : ∀ z ∈ zs, Sg z) : (Txt.join "" zs).length = zs.length ∧ SOk (Txt.join "" zs) := by
  rw [len_tl]
  have e := join0 zs
  constructor
  · rw [e]
    clear e
    induction zs with
    | nil => rfl
    | cons z r ih =>
      rw [List.map_cons, List.flatten_cons, List.length_append, ih fun y hy => h y (List.mem_cons_of_mem _ hy), ← len_tl, (h z List.mem_cons_self).1, List.length_cons]
      omega
  · intro c hc
    rw [e] at hc
    obtain ⟨l, hl, hc⟩ := List.mem_flatten.mp hc
    obtain ⟨z, hz, rfl⟩ := List.mem_map.mp hl
    exact (h z hz).2 c hc
theorem sg_one {c : Nat} {z : Str} (h : SOk z) (hc : c ∈ z.cps.toList) : Sg ⟨#[c]⟩ := ⟨rfl, fun d hd => by
  have : d = c := by simpa using hd
  rw [this]
  exact h c hc⟩
theorem atI_some {α : Type} {xs : List α} {i : Int} (h0 : 0 ≤ i) (h1 : i < xs.length) : ∃ v, atI xs i = some v ∧ v ∈ xs := by
  obtain ⟨j, rfl⟩ : ∃ j : Nat, i = (j : Int) := ⟨i.toNat, by omega⟩
  have hj : j < xs.length := by omega
  exact ⟨xs[j], atI_nat (List.getElem?_eq_getElem hj), List.getElem_mem _⟩
theorem ixN_some {n : Nat} {i : Int} (h0 : 0 ≤ i) (h1 : i < n) : ∃ j, ixN n i = some j ∧ j < n := by
  obtain ⟨j, rfl⟩ : ∃ j : Nat, i = (j : Int) := ⟨i.toNat, by omega⟩
  exact ⟨j, Evl.ixN_nat (by omega), by omega⟩
end Lw

namespace Lw
open PySem PySem.Spec PyProof.Rows L2
/-! ### names -/
def LET : Str := "abcdefghijklmnopqrstuvwxyz"
def DIG : Str := "0123456789"
/-- whether a code is a letter's, a figure's -/
def isL (c : Nat) : Bool := decide (c ∈ LET.cps.toList)
def isD (c : Nat) : Bool := decide (c ∈ DIG.cps.toList)
/-- the names -/
def vnL : List Nat → Bool
  | [] => false
  | c :: r => decide ((c :: r).length ≤ 6) && isL c && (c :: r).all fun d => isL d || isD d
theorem vnL_cons (c : Nat) (r : List Nat) : vnL (c :: r) = (decide ((c :: r).length ≤ 6) && isL c && (c :: r).all fun d => isL d || isD d) := rfl
def vn (z : Str) : Bool := vnL z.cps.toList
theorem cps_at {z : Str} {i c : Nat} (h : z.cps[i]? = some c) : z.cps.toList[i]? = some c := by simpa using h
theorem take_all {α : Type} {xs : List α} {p : α → Bool} {i : Nat} {c : α} (h : xs[i]? = some c) : (xs.take (i + 1)).all p = ((xs.take i).all p && p c) := by
  rw [List.take_add_one, h]
  simp
theorem take_map {α β : Type} {xs : List α} {f : α → β} {i : Nat} {c : α} (h : xs[i]? = some c) : (xs.take (i + 1)).map f = (xs.take i).map f ++ [f c] := by
  rw [List.take_add_one, h, List.map_append]
  rfl
def sp_vn : Sp := fun vs H Q _ => ∃ (z : Str), vs = [.str z] ∧ z.length ≤ 1000 ∧ SOk z ∧ ∀ H', Same H H' → Q (.bl (vn z)) H'
/-- the letters and the figures by their codes -/
theorem let_codes : LET.cps.toList = (List.range 26).map (97 + ·) := by decide +kernel
theorem dig_codes : DIG.cps.toList = (List.range 10).map (48 + ·) := by decide +kernel
theorem isL_iff {c : Nat} : isL c = true ↔ 97 ≤ c ∧ c < 123 := by
  unfold isL
  rw [decide_eq_true_iff, let_codes, List.mem_map]
  constructor
  · rintro ⟨i, hi, rfl⟩
    have := List.mem_range.mp hi
    omega
  · rintro ⟨h1, h2⟩
    exact ⟨c - 97, List.mem_range.mpr (by omega), by omega⟩
theorem isD_iff {c : Nat} : isD c = true ↔ 48 ≤ c ∧ c < 58 := by
  unfold isD
  rw [decide_eq_true_iff, dig_codes, List.mem_map]
  constructor
  · rintro ⟨i, hi, rfl⟩
    have := List.mem_range.mp hi
    omega
  · rintro ⟨h1, h2⟩
    exact ⟨c - 48, List.mem_range.mpr (by omega), by omega⟩
/-- a code that a name may have -/
def isN (c : Nat) : Bool := isL c || isD c
theorem isN_lt {c : Nat} (h : isN c = true) : c < 123 := by
  unfold isN at h
  rw [Bool.or_eq_true, isL_iff, isD_iff] at h
  omega
theorem vnL_of {c : Nat} {r : List Nat} (hl : r.length ≤ 5) (hc : isL c = true) (hr : ∀ d ∈ r, isN d = true) : vnL (c :: r) = true := by
  rw [vnL_cons, hc, decide_eq_true (by simp only [List.length_cons]; omega), Bool.true_and, Bool.true_and, List.all_eq_true]
  intro d hd
  rcases List.mem_cons.mp hd with rfl | hd
  · rw [hc]
    rfl
  · exact hr d hd
theorem vn_parts {z : Str} (h : vn z = true) : 1 ≤ z.length ∧ z.length ≤ 6 ∧ ∀ c ∈ z.cps.toList, isN c = true := by
  unfold vn at h
  rw [len_tl]
  cases hc : z.cps.toList with
  | nil =>
    rw [hc] at h
    cases h
  | cons c r =>
    rw [hc, vnL_cons, Bool.and_eq_true, Bool.and_eq_true, decide_eq_true_iff, List.all_eq_true] at h
    exact ⟨by simp, h.1.1, h.2⟩
theorem vn_sok {z : Str} (h : vn z = true) : SOk z := fun c hc => by
  have := isN_lt ((vn_parts h).2.2 c hc)
  omega
end Lw

namespace Lw
open PySem PySem.Spec PyProof.Rows L2
def sp_draw : Sp := fun vs H Q _ => ∃ (st : Addr) (size : Int) (n : Nat), vs = [.ref st, .int size] ∧ DS H st n ∧ n ≤ 1000000000 ∧ 0 < size ∧ size < 1000000000 ∧
  ∀ (d : Int) (H' : Hp), 0 ≤ d → d < size → DS H' st (n + 1) → Kp st H H' → Q (.int d) H'
def sp_start (K : PySem.W.Frag) : Sp := fun vs H Q _ => ∃ (a : Addr) (ns : List Int), vs = [.ref a] ∧ SqL K H a (ns.map V.int) ∧ ns.length ≤ 63 ∧
  ∀ (st : Addr) (H' : Hp), DS H' st 0 → (∀ b o, H b = some o → Ap H' st b o) → Q (.ref st) H'
theorem DS.ex {H H' : Hp} {st : Addr} {n : Nat} (D : DS H st n) (e : Evl.Ex H H') : DS H' st n := by
  obtain ⟨q, r, bs, cs, c, d, h1, h2, h3, h4⟩ := D
  exact ⟨q, r, bs, cs, c, ⟨e _ _ d.st', e _ _ d.q', e _ _ d.r', d.qr, d.qs, d.rs⟩, h1, h2, h3, h4⟩
theorem DS.exK {H H' : Hp} {st : Addr} {n : Nat} (D : DS H st n) (e : Evl.Ex H H') : Kp st H H' := by
  obtain ⟨q, r, bs, cs, c, d, h1, h2, h3, h4⟩ := D
  exact Kp.dx d ⟨e _ _ d.st', e _ _ d.q', e _ _ d.r', d.qr, d.qs, d.rs⟩ fun b o x _ y z => ⟨e _ _ x, y, z⟩
/-- a list made anew since H1, stored to, keeps what stood apart in H1 -/
theorem Kp.put {H1 H : Hp} {st b : Addr} {n : Nat} {o u : HO} (k : Kp st H1 H) (hb : H1 b = none) (D : DS H st n) (a : Ap H st b o) : Kp st H1 (upd H b u) := fun c v h => Ap.put D a (k c v h) (ne_of_none h.1 hb)
theorem DS.freshB {H : Hp} {st p : Addr} {n : Nat} {o : HO} (D : DS H st n) (h : Ap H st p o) {H' : Hp} (e : Evl.Ex H H') : Ap H' st p o := D.exK e _ _ h
/-- [signs[draw(size)] for k in range(n)] -/
theorem lc_signs {st D : Addr} {m n j i0 iz : Nat} {size lo : Int} {z : Str} {σ : L2.St} {vs : List Nat} {Qd : Hp → Prop} {H1 : Hp} (hst : ∀ x, ((wipe σ vs).set j (some x))[i0]? = some (some (.ref st))) (hz : ∀ x, ((wipe σ vs).set j (some x))[iz]? = some (some (.str z)))
    (hw : ∀ x, wipe ((wipe σ vs).set j (some x)) vs = wipe σ vs) (hs0 : 0 < size) (hs1 : size ≤ z.length) (zl : z.length ≤ 1000) (hm : m + n ≤ 1000000000) (hn : n ≤ 1000) (D0 : DS H1 st m) (hD : H1 D = none)
    (hd : ∀ (H' : Hp) (zs : List Str), DS H' st (m + n) → Kp st H1 H' → Ap H' st D (.lst (zs.map V.str)) → zs.length = n → (∀ y ∈ zs, ∃ c k : Nat, y = ⟨#[c]⟩ ∧ (k : Int) < size ∧ z.cps.toList[k]? = some c) → Qd H') :
    ∃ W : Nat → Nat → Hp → Prop, (∃ m, W 0 m (upd H1 D (.lst []))) ∧ ∀ i m H, W i m H →
      ((Itr lo n).stop i H ∧ Qd H) ∨ ((Itr lo n).go i H ∧ ∃ Nx : Hp → Prop, (∀ H', Nx H' → ∃ m', m' < m ∧ W (i + 1) m' H') ∧ ∀ x H', (Itr lo n).yld i H x H' → (gName j) x (wipe σ vs) H' fun σ2 H2 => wipe σ2 vs = wipe σ vs ∧ tYes σ2 H2 fun b H3 =>
        if b = true then (tOp rIxS (tVar iz) (tCall sp_draw [] E0 (tCons (tVar i0) (tCons (tC (.int size)) tNil)))) σ2 H3 fun y H4 => ∃ acc, H4 D = some (.lst acc) ∧ acc.length < sizeLine ∧ Nx (upd H4 D (.lst (acc ++ [y]))) else Nx H3) := by
  have zl2 : z.length ≤ sizeLine := Nat.le_of_lt (small1000 zl)
  refine lc_range (lo := lo) (n := n) (fun i H' => ∃ zs : List Str, DS H' st (m + i) ∧ Kp st H1 H' ∧ Ap H' st D (.lst (zs.map V.str)) ∧ zs.length = i ∧ ∀ y ∈ zs, ∃ c k : Nat, y = ⟨#[c]⟩ ∧ (k : Int) < size ∧ z.cps.toList[k]? = some c) ⟨[], D0.new hD, D0.newK hD, D0.fresh hD, rfl, fun _ h => by simp at h⟩ (fun i H' hi ⟨zs, DD, kp, ap, hl, hy⟩ => ?_) (fun H' ⟨zs, DD, kp, ap, hl, hy⟩ => hd H' zs DD kp ap hl hy)
  refine ⟨hw _, .str z, hz _, .ref st, hst _, st, size, m + i, rfl, DD, by omega, hs0, by omega, fun d H2 d0 d1 D' kp2 => ?_⟩
  obtain ⟨k, rfl⟩ : ∃ k : Nat, d = (k : Int) := ⟨d.toNat, by omega⟩
  have hk : k < z.cps.toList.length := by
    rw [← len_tl]
    omega
  have ap' := kp2 _ _ ap
  refine ⟨z, (k : Int), z.cps.toList[k], rfl, rfl, zl2, atI_nat (List.getElem?_eq_getElem hk), _, ap'.1, ?_, zs ++ [⟨#[z.cps.toList[k]]⟩], D'.put ap', (kp.trans kp2).put hD D' ap', ?_, ?_, ?_⟩
  · rw [List.length_map]
    exact small1000 (by omega)
  · rw [List.map_append]
    exact D'.putA ap'
  · rw [List.length_append, hl]
    rfl
  · intro y hy'
    rcases List.mem_append.mp hy' with h | h
    · exact hy y h
    · rw [List.mem_singleton.mp h]
      exact ⟨_, k, rfl, d1, List.getElem?_eq_getElem hk⟩
/-- the letters, then the figures -/
def SG36 : Str := "abcdefghijklmnopqrstuvwxyz0123456789"
theorem sg36_codes : SG36.cps.toList = (List.range 26).map (97 + ·) ++ (List.range 10).map (48 + ·) := by decide +kernel
theorem sg36_len : SG36.length = 36 := by decide +kernel
theorem sg36_at {k c : Nat} (h : SG36.cps.toList[k]? = some c) : isN c = true ∧ (k < 26 → c = 97 + k ∧ isL c = true) := by
  rw [sg36_codes] at h
  by_cases hk : k < 26
  · rw [List.getElem?_append_left (by simpa using hk), List.getElem?_map, List.getElem?_range hk] at h
    have : c = 97 + k := (Option.some.inj h).symm
    have hl : isL c = true := isL_iff.mpr (by omega)
    exact ⟨by unfold isN; rw [hl]; rfl, fun _ => ⟨this, hl⟩⟩
  · have h2 : k - 26 < 10 := by
      have := (List.getElem?_eq_some_iff.mp h).1
      simp at this
      omega
    rw [List.getElem?_append_right (by simpa using hk), List.getElem?_map, List.length_map, List.length_range, List.getElem?_range h2] at h
    have : c = 48 + (k - 26) := (Option.some.inj h).symm
    have hd : isD c = true := isD_iff.mpr (by omega)
    exact ⟨by unfold isN; rw [hd]; exact Bool.or_true _, fun h => absurd h hk⟩
/-- figures of small numbers -/
theorem num_codes : ∀ i : Nat, i < 100 → (∀ c ∈ (Str.ofString (toString (i : Int))).cps.toList, isD c = true) ∧ (Str.ofString (toString (i : Int))).cps.toList.length ≤ 2 := by
  have : ((List.range 100).all fun i => ((Str.ofString (toString (i : Int))).cps.toList.all isD) && decide ((Str.ofString (toString (i : Int))).cps.toList.length ≤ 2)) = true := by decide +kernel
  intro i hi
  have h := List.all_eq_true.mp this i (List.mem_range.mpr hi)
  rw [Bool.and_eq_true, List.all_eq_true, decide_eq_true_iff] at h
  exact h
theorem num_inj : ∀ i j : Nat, i < 100 → j < 100 → (Str.ofString (toString (i : Int))).cps.toList = (Str.ofString (toString (j : Int))).cps.toList → i = j := by
  have : ((List.range 100).all fun i => (List.range 100).all fun j => decide ((Str.ofString (toString (i : Int))).cps.toList = (Str.ofString (toString (j : Int))).cps.toList → i = j)) = true := by decide +kernel
  intro i j hi hj
  have h := List.all_eq_true.mp (List.all_eq_true.mp this i (List.mem_range.mpr hi)) j (List.mem_range.mpr hj)
  exact of_decide_eq_true h
theorem app_codes (a b : Str) : (a ++ b).cps.toList = a.cps.toList ++ b.cps.toList := TL.tl_append a b
theorem str_ext {a b : Str} (h : a.cps.toList = b.cps.toList) : a = b := TL.ext_tl h
theorem vn_of {z : Str} {c : Nat} {r : List Nat} (e : z.cps.toList = c :: r) (hl : r.length ≤ 5) (hc : isL c = true) (hr : ∀ d ∈ r, isN d = true) : vn z = true := by
  unfold vn
  rw [e]
  exact vnL_of hl hc hr
/-- a row of n different names by its turns -/
theorem row_names {n : Nat} {f : Nat → Str} (hv : ∀ k, k < n → vn (f k) = true) (hi : ∀ j k, j < k → k < n → f j ≠ f k) : ((List.range n).map f).length = n ∧ (∀ z ∈ (List.range n).map f, vn z = true) ∧ ((List.range n).map f).Nodup := by
  refine ⟨by simp, fun z hz => ?_, ?_⟩
  · obtain ⟨k, hk, rfl⟩ := List.mem_map.mp hz
    exact hv k (List.mem_range.mp hk)
  · rw [List.nodup_iff_pairwise_ne, List.pairwise_map]
    refine List.Pairwise.imp_of_mem ?_ (List.pairwise_lt_range)
    intro a b ha hb hab
    exact hi a b hab (List.mem_range.mp hb)
end Lw

namespace Lw
open PySem PySem.Spec PyProof.Rows L2 Evl
theorem cutS_to (z : Str) (k : Nat) : (cutS z none (some (k : Int))).cps.toList = z.cps.toList.take k := by
  show (z.cps.toList.drop (HT.sIx z.length 0 none)).take (HT.sIx z.length z.length (some (k : Int)) - HT.sIx z.length 0 none) = _
  rw [HT.sIx_none, HT.sIx_nat, List.drop_zero, Nat.sub_zero, len_tl, ← List.take_take, List.take_length]
theorem cutS_from (z : Str) (k : Nat) : (cutS z (some (k : Int)) none).cps.toList = z.cps.toList.drop k := by
  show (z.cps.toList.drop (HT.sIx z.length 0 (some (k : Int)))).take (HT.sIx z.length z.length none - HT.sIx z.length 0 (some (k : Int))) = _
  rw [HT.sIx_none, HT.sIx_nat, len_tl]
  by_cases h : k ≤ z.cps.toList.length
  · rw [Nat.min_eq_left h]
    exact List.take_of_length_le (by rw [List.length_drop]; exact Nat.le_refl _)
  · rw [Nat.min_eq_right (by omega), List.drop_of_length_le (Nat.le_refl _), List.drop_of_length_le (by omega)]
    simp
section
variable {K : PySem.W.Frag} {σ : L2.St} {H H' : Hp} {ta tb tc te tl : TE} {t u : TT} {x y z v : V} {r r' : R2}
theorem rc_strI {i : Int} (h : i.natAbs.log2 < 1920) : RC (fun xs H Q => ∃ i, xs = [.int i] ∧ i.natAbs.log2 < 1920 ∧ Q (.str (toString i)) H) [.int i] H (.str (toString i)) := fun H1 _ _ q => ⟨i, rfl, h, q H1 (Ex.refl H1)⟩
theorem ev_slS {tl th : TO} {z : Str} {lo hi : Option Int} (h : Ev te σ H (.str z)) (h1 : EvO tl σ H lo) (h2 : EvO th σ H hi) (hz : z.length ≤ sizeLine) : Ev (tSl rSlS te tl th) σ H (.str (cutS z lo hi)) := fun H1 e _ q =>
  h H1 e _ fun H2 e2 => h1 H2 (e.trans e2) _ fun H3 e3 => h2 H3 ((e.trans e2).trans e3) _ fun H4 e4 => ⟨z, rfl, hz, q H4 ((e2.trans e3).trans e4)⟩
/-- an item of a new list -/
theorem ev_ixNew {xs : List V} {i : Int} (ha : EvL ta σ H xs) (hb : Ev tb σ H (.int i)) (h : atI xs i = some v) : Ev (tOp (rIxL K) ta tb) σ H v :=
  ev_opL1 ha (fun _ e => hb.mono e) fun p H1 hp _ => rv_ixL (.inl (.inl hp)) h
end
/-- [elt for k in range(n)], without a test -/
theorem given_all (n : Nat) (v : Nat → V) : given n (fun _ => true) v = (List.range n).map v := by
  unfold given
  rw [List.filter_eq_self.mpr fun _ _ => rfl]
theorem stem_ok {zs : List Str} (h : ∀ y ∈ zs, ∃ c k : Nat, y = ⟨#[c]⟩ ∧ (k : Int) < 36 ∧ SG36.cps.toList[k]? = some c) : (Txt.join "" zs).cps.toList.length = zs.length ∧ (∀ c ∈ (Txt.join "" zs).cps.toList, isN c = true) ∧ (zs.map (·.length)).sum = zs.length := by
  rw [join0]
  induction zs with
  | nil => exact ⟨rfl, fun _ h => by simp at h, rfl⟩
  | cons y r ih =>
    obtain ⟨i1, i2, i3⟩ := ih fun x hx => h x (List.mem_cons_of_mem _ hx)
    obtain ⟨c, k, rfl, hk, hc⟩ := h y List.mem_cons_self
    refine ⟨?_, fun d hd => ?_, ?_⟩
    · rw [List.map_cons, List.flatten_cons, List.length_append, i1, List.length_cons]
      show 1 + r.length = r.length + 1
      omega
    · rw [List.map_cons, List.flatten_cons, List.mem_append] at hd
      rcases hd with hd | hd
      · have : d = c := by simpa using hd
        rw [this]
        exact (sg36_at hc).1
      · exact i2 d hd
    · rw [List.map_cons, List.sum_cons, i3, List.length_cons]
      show 1 + r.length = r.length + 1
      omega
/-- what a pure piece has made stands apart -/
theorem DS.exNew {H H' : Hp} {st p : Addr} {n : Nat} {o : HO} (D : DS H st n) (e : Ex H H') (h : H p = none) (h' : H' p = some o) : Ap H' st p o := by
  obtain ⟨q, r, bs, cs, c, d, h1, h2, h3, h4⟩ := D
  have d' : DX H' st q r bs cs c := ⟨e _ _ d.st', e _ _ d.q', e _ _ d.r', d.qr, d.qs, d.rs⟩
  exact (ap_iff d').mpr ⟨h', (ne_of_none d.st' h).symm, (ne_of_none d.q' h).symm, (ne_of_none d.r' h).symm⟩
def sp_names : Sp := fun vs H Q _ => ∃ (st : Addr) (count : Int) (n : Nat), vs = [.ref st, .int count] ∧ DS H st n ∧ n ≤ 900000000 ∧ 0 ≤ count ∧ count ≤ 9 ∧
  ∀ (p : Addr) (ws : List Str) (H' : Hp), DS H' st (n + 20) → Kp st H H' → (∀ b o, Ap H st b o → b ≠ p) → Ap H' st p (.lst (ws.map V.str)) → ws.length = count.toNat → (∀ z ∈ ws, vn z = true) → ws.Nodup → Q (.ref p) H'
end Lw

namespace Lw
open PySem PySem.Spec PyProof.Rows L2
/-! ### several except clauses, each with a name -/
abbrev Suite := Addr → Value → Option Addr → TS
/-- the suite's ends: the clause's name is gone behind it -/
def gone (i : Nat) (D : Ends) : Ends := { nx := fun σ' H' => D.nx (σ'.set i none) H', rt := D.rt, bk := fun σ' H' => D.bk (σ'.set i none) H', ct := fun σ' H' => D.ct (σ'.set i none) H' }
def wNamed (K : PySem.W.Frag) (Wout : WX) (D : Ends) : List (Value × Nat × Suite) → WX
  | [] => Wout
  | (c, i, ts) :: r => fun cls d σ H => ∃ b, PySem.W.exmOne K cls c = some b ∧ (b = true → ∀ a, H a = none → ts a cls d (gone i D) (σ.set i (some (.ref a))) H) ∧ (b = false → wNamed K Wout D r cls d σ H)
inductive NamedOk (X : Cx) : List ExceptHandler → List (Value × Nat × Suite) → Prop
  | nil : NamedOk X [] []
  | cons {x n : Str} {c : Value} {i : Nat} {ts : Suite} {b₀ : Stmt} {suite : List Stmt} {np pos' : Pos} {hds : List ExceptHandler} {l : List (Value × Nat × Suite)} (hc : Names X x c) (hi : X.N[i]? = some n) (hl : X.env.kindOf n = some .local)
      (hsu : ∀ (a : Addr) (oe : Obj) (cls : Value) (d : Option Addr) (pn : List (Addr × Obj)), Zc cls d oe → (∃ vs, oe.data = .fields vs) → PSs (X.suite a ((a, oe) :: pn)) (b₀ :: suite) (ts a cls d)) (r : NamedOk X hds l) :
      NamedOk X (.ExceptHandler (some (.Name x np)) (some n) (b₀ :: suite) pos' :: hds) ((c, i, ts) :: l)
section
variable {X : Cx} {body : List Stmt} {h₀ : ExceptHandler} {hds : List ExceptHandler} {l : List (Value × Nat × Suite)} {pos : Pos} {tb : WX → TS} {Wout : WX}
theorem ps_try_named (hst : X.stack = X.env :: X.outer) (hfm : X.env.frame = some X.env.locals) (hN : X.N.Nodup) (tk : Takes X Wout)
    (hbody : ∀ (W : WX) (pn : List (Addr × Obj)) (xe : Value → Shared → Prop), Takes (X.tr pn xe) W → PassesOwn (model X.prog X.w) X.A X.env xe → PSs (X.tr pn xe) body (tb W))
    (hh : NamedOk X (h₀ :: hds) l) : PS X (.Try body (h₀ :: hds) [] [] pos) (fun D σ H => tb (wNamed X.K Wout D l) D σ H) := by
  refine ⟨fun pins s σ H D I h => ?_⟩
  have ok := I.ok
  have frm : X.A.frames = some (X.env :: X.outer) := by
    rw [ok.frames, hst]
  refine wpAny_Try_except ?_
  have caught : Takes (X.tr (X.pn ++ pins) fun e s₁ => wpAny (model X.prog X.w) X.A (noteFrame e X.env) (fun _ s₂ => wpAny (model X.prog X.w) X.A (setFlight e none) (fun _ s₃ => wpAny (model X.prog X.w) X.A (handleBy e X.env (h₀ :: hds)) (SP X pins D) X.xe s₃) X.xe s₂) X.xe s₁) (wNamed X.K Wout D l) := by
    intro u s' xx
    obtain ⟨a, B, sI, pins', σ', H', cls, d, rfl, J', nb, up, sky, na, os, ag, w⟩ := xx
    have J : Inv X pins σ' H' sI := J'.ofTry ok
    have sky2 : Sky B (X.env :: X.outer) a (Zc cls d) X.env.locals s'.heap := by
      rw [← hst]
      exact sky
    show wpAny (model X.prog X.w) X.A (noteFrame (.ref a) X.env) _ _ _
    refine Sky.land Zc.steady frm hfm sky2 fun hA flA upA => ?_
    have JA : Inv X pins σ' H' { s' with heap := hA } := J.landed nb flA.1 (up.trans upA) os ag
    obtain ⟨oA, vsA, geA, zA, dA⟩ := flA.there
    have off : a ∉ frs (X.env :: X.outer) := fun hm => by
      obtain ⟨_, o', e', nof⟩ := flA.2.2.1.mem hm
      rw [geA] at e'
      cases e'
      exact nof _ dA
    have offL : a ≠ X.env.locals := fun z => off (List.mem_filterMap.mpr ⟨X.env, List.mem_cons_self, by rw [hfm, z]⟩)
    have offF : a ∉ X.fs := fun hm => by
      obtain ⟨e, he, q⟩ := List.mem_filterMap.mp hm
      exact off (List.mem_filterMap.mpr ⟨e, List.mem_cons_of_mem _ he, q⟩)
    have SA := JA.suite geA dA na offL offF
    -- one clause after the other
    have go : ∀ {hs : List ExceptHandler} {m : List (Value × Nat × Suite)}, NamedOk X hs m → wNamed X.K Wout D m cls d σ' H' → wpAny (model X.prog X.w) X.A (handleBy (.ref a) X.env hs) (SP X pins D) X.xe { s' with heap := hA } := by
      intro hs m hk
      induction hk with
      | nil =>
        intro w
        obtain ⟨_, _, _, oe, vs, T, _, _, he, _, hd, h1, _⟩ := id flA
        refine wpAny_handleBy_nil ?_
        unfold PySem.passOn
        refine wpAny_bind (wpAny_field he hd h1 ?_)
        rw [if_neg (show ¬ ((Value.ref T == Value.none) = true) from by simp)]
        have on : wpAny (model X.prog X.w) X.A (setFlight (.ref a) X.env.frame) (fun _ s4 => wpAny (model X.prog X.w) X.A (throw (.ref a) : Sem Flow) (SP X pins D) X.xe s4) X.xe { s' with heap := hA } := by
          rw [hfm]
          refine HandSPX.setFlight_upZ flA fun hB flB upB => wpAny_throw (tk _ _ ?_)
          exact ⟨a, B, sI, pins, σ', H', cls, d, rfl, J, nb, (up.trans upA).trans upB, .inr (.inr (by rw [hst]; exact flB)), na, os, ag, w⟩
        first
          | exact wpAny_bind (wpAny_pure (wpAny_bind on))
          | exact wpAny_bind on
      | @cons x n c i ts b₀ suite np pos' hs2 m2 hc hi hl hsu r ih =>
        intro w
        obtain ⟨b, hb1, yes, no⟩ := w
        refine wpAny_handleBy_cons (codeAny_handlers_test ?_) (by intro q; cases q)
        have isCls : PySem.W.Looks (model X.prog X.w) hA (typeOf (.ref a)) cls := fun A Q E s k q => wpAny_typeOf_ref (k _ _ geA) (by rw [zA.1]; exact q)
        have meets := PySem.W.exm_one (M := model X.prog X.w) JA.kIn isCls hb1
        have named : ∀ {Q : Value → Shared → Prop} {E : Value → Shared → Prop}, Q c { s' with heap := hA } → wpAny (model X.prog X.w) (X.A.mark (some (.ref a))) (eval (.Name x np) X.env) Q E { s' with heap := hA } := fun {Q E} q => by
          obtain ⟨hg, hdb, hm | ⟨hm, hv, hnn⟩⟩ := hc
          · exact ld_glob (X := X.suite a ((a, oA) :: (X.pn ++ pins))) SA hg hm q hdb
          · exact ld_blt (X := X.suite a ((a, oA) :: (X.pn ++ pins))) SA hg hm hv q hnn hdb
        refine named (meets.here ?_)
        cases b with
        | false =>
          show wpAny _ X.A (handleBy (.ref a) X.env hs2) _ _ _
          exact ih (no rfl)
        | true =>
          refine codeAny_handlers_suite_as ?_
          refine HandSPX.lands_againZ flA fun hB flB upB => ?_
          have JB : Inv X pins σ' H' { s' with heap := hB } := J.landed nb flB.1 ((up.trans upA).trans upB) os ag
          obtain ⟨oB, vsB, geB, zB, dB⟩ := flB.there
          have SB := JB.suite geB dB na offL offF
          refine store_ok (X := X.suite a ((a, oB) :: (X.pn ++ pins))) (v := .ref a) SB hN hi (.inl hl) rfl (fun s5 S5 => ?_) (.inr hl)
          refine wpAny_mono ((hsu a oB cls d (X.pn ++ pins) zB ⟨_, dB⟩).run [] s5 _ H' _ S5 (yes rfl a na)) (fun f s6 hsp => ?_) (fun _ _ z => False.elim z)
          have fin : ∀ {σ6 : L2.St} {H6 : Hp} {Q : Shared → Prop}, Inv (X.suite a ((a, oB) :: (X.pn ++ pins))) [] σ6 H6 s6 → (∀ s7, Inv X pins (σ6.set i none) H6 s7 → Q s7) →
              wpAny (model X.prog X.w) X.A (do bindName X.env n .none; unbindBehindTheSuite X.env n pos') (fun _ s7 => Q s7) X.xe s6 := fun {σ6 H6 Q} S6 hq => gone_ok (S6.unsuite ok) hN hi hl hq
          cases f with
          | ret u =>
            obtain ⟨v6, σ6, H6, S6, r6, q6⟩ := hsp
            exact fin S6 fun s7 J7 => ⟨_, _, _, J7, r6, q6⟩
          | next =>
            obtain ⟨σ6, H6, S6, q6⟩ := hsp
            exact fin S6 fun s7 J7 => ⟨_, _, J7, q6⟩
          | brk =>
            obtain ⟨σ6, H6, S6, q6⟩ := hsp
            exact fin S6 fun s7 J7 => ⟨_, _, J7, q6⟩
          | cont =>
            obtain ⟨σ6, H6, S6, q6⟩ := hsp
            exact fin S6 fun s7 J7 => ⟨_, _, J7, q6⟩
    exact go hh w
  refine wpAny_mono ((hbody (wNamed X.K Wout D l) (X.pn ++ pins) _ caught PassesOwn.looking).run [] s σ H D (I.toTry _) h) (fun f s1 hsp => ?_) (fun e s1 he => he)
  cases f with
  | ret u =>
    obtain ⟨v, σ', H', J', r, q⟩ := hsp
    exact ⟨v, σ', H', J'.ofTry ok, r, q⟩
  | next =>
    obtain ⟨σ', H', J', q⟩ := hsp
    exact wpAny_execs_nil ⟨σ', H', J'.ofTry ok, q⟩
  | brk =>
    obtain ⟨σ', H', J', q⟩ := hsp
    exact ⟨σ', H', J'.ofTry ok, q⟩
  | cont =>
    obtain ⟨σ', H', J', q⟩ := hsp
    exact ⟨σ', H', J'.ofTry ok, q⟩
end
/-! ### isinstance of a caught error that has a dict -/
structure IsC (K : PySem.W.Frag) (D : Addr) : Prop where
  cl : (PySem.W.clsIn K D).isSome = true
  ga : PySem.W.findIn K (.ref D) "__getattribute__" = some (some (.builtin "BaseException.__getattribute__"))
  gt : ∃ gt, PySem.W.findIn K (.ref D) "__getattr__" = some gt
  sb : PySem.W.subIn K (.ref D) (.type "BaseException") = some true
  ca : PySem.W.findIn K (.ref D) "__class__" = some (some (.builtin "object.__class__"))
  sn : PySem.W.specialIn K (.builtin "object.__class__") "__get__" = some (some (.builtin "getset_descriptor.__get__"))
  tk : PySem.W.takesIn K (.builtin "object.__class__") = some true
  mo : PySem.W.mroIn K D (.type "object") = some true
/-- isinstance(e, c): e the error that the suite holds, its class at D, its own dict at dd -/
def rIsX (K : PySem.W.Frag) (a : Addr) (cls : Value) (d : Option Addr) : List V → Hp → VK → Prop := fun xs H Q => ∃ (D : Addr) (c : V) (cv : Value) (b : Bool) (dd : Addr) (fs : List (Str × V)), IsC K D ∧ cls = .ref D ∧ d = some dd ∧ H dd = some (.xd fs) ∧ xs = [.ref a, c] ∧ ClsV c cv ∧ PySem.W.kitOne K (.ref D) cv = some b ∧ Q (.bl b) H
theorem call_isX {X : Cx} {a : Addr} {cls : Value} {d : Option Addr} {oe : Obj} {pn : List (Addr × Obj)} (hz : Zc cls d oe) (hf : ∃ vs, oe.data = .fields vs) : CallR (X.suite a ((a, oe) :: pn)) (.builtin "isinstance") (rIsX X.K a cls d) := by
  intro pins s σ H xs us Q I r h
  obtain ⟨D, c, cv, b, dd, fs, C, rfl, rfl, hdd, rfl, hcv, e, q⟩ := h
  cases r with
  | cons rx rr =>
    cases rr with
    | cons rt rr =>
      cases rr
      cases rx
      have ec := hcv.eq rt
      subst ec
      obtain ⟨hget, _⟩ := I.pin (a, oe) (List.mem_append.mpr (.inl List.mem_cons_self))
      obtain ⟨vs, hv⟩ := hf
      have hx : ObjOk X.prog X.w H s.heap dd (.xd fs) := I.hok dd _ hdd
      obtain ⟨mA, hns, _⟩ := hx
      obtain ⟨od, ho, _⟩ := lookIn_ns hns
      obtain ⟨gt, hgt⟩ := C.gt
      have J : PySem.W.InstAt s.heap a oe D (some od) := ⟨hget, hz.1, by unfold PySem.W.notCls; rw [hv] <;> rfl, by rw [hz.2]; exact ho⟩
      exact PySem.W.kia_one (PySem.W.kitx_exc C.cl C.ga hgt C.sb C.ca C.sn C.tk C.mo) I.kIn J e (by cases hcv <;> exact fun z => nomatch z) fun tk => ⟨.bl b, H, I.kept (t' := tk) fun _ _ z => z, rfl, q⟩
/-! ### an error of one field is made -/
/-- __init__(self, f): self.f = f -/
def sp_init1 (K : PySem.W.Frag) (C : Addr) (f : Str) : Sp := fun vs H Q _ => ∃ (a : Addr) (y : V), vs = [.ref a, y] ∧ H a = some (exo a C none) ∧ ∀ dx, H dx = none → dx ≠ a → Q .non (upd (upd H dx (exd dx [(f, y)])) a (exo a C (some dx)))
theorem mk1_at {K : PySem.W.Frag} {C : Addr} {f : Str} {y : V} {H1 : Hp} {Q : XK} (k : ∀ d, H1 d = none → Q (.ref C) (some d) (upd H1 d (.xd [(f, y)]))) : ([y] : List V).length ≤ 1000 ∧ ∀ a, H1 a = none → sp_init1 K C f (.ref a :: ([y] ++ [])) (upd H1 a (exo a C none))
      (fun v H2 => v = .non ∧ ∃ (d : Addr) (fs : List (Str × V)), H2 a = some (exo a C (some d)) ∧ H2 d = some (exd d fs) ∧ H1 d = none ∧ Q (.ref C) (some d) (upd (del H2 a) d (.xd fs))) (fun _ _ _ => False) := by
  refine ⟨by simp, fun a na => ⟨a, y, rfl, upd_same, fun dx ndx ne => ⟨rfl, dx, [(f, y)], upd_same, ?_, ?_, ?_⟩⟩⟩
  · rw [upd_ne ne, upd_same]
  · rw [upd_ne ne] at ndx
    exact ndx
  · rw [upd_ne ne] at ndx
    have e : upd (del (upd (upd (upd H1 a (exo a C none)) dx (exd dx [(f, y)])) a (exo a C (some dx))) a) dx (.xd [(f, y)]) = upd H1 dx (.xd [(f, y)]) := by
      funext b
      by_cases hb : b = dx
      · rw [hb, upd_same, upd_same]
      · rw [upd_ne hb, upd_ne hb]
        by_cases ha : b = a
        · rw [ha, del_same, na]
        · rw [del_ne ha, upd_ne ha, upd_ne hb, upd_ne ha]
    rw [e]
    exact k dx ndx
end Lw

namespace Lw
open PySem PySem.Spec PyProof.Rows L2
section
open PySem.W PySem.Calls
variable {prog : Program} {w : World} {A : Around} {E : Value → Shared → Prop} {s : Shared}
/-- a tuple's items are collected for sorted -/
theorem collect_tup {l : Addr} {vs : List Value} {Q : List Value → Shared → Prop} (hl : IsTup s.heap l vs.toArray) (hz : vs.length ≤ sizeLine)
    (h : Q vs { s with heap := (s.heap.push (seqObj "list" #[] 0)).update s.heap.objs.size (Obj.mapSeq (· ++ vs.toArray)) }) : wpAny (model prog w) A (collect (.ref l)) Q E s := by
  obtain ⟨o, ho, hc, n, hd⟩ := id hl
  have own : (s.heap.push (seqObj "list" #[] 0)).get? l = some o := Heap.get?_push_of_some _ ho
  have new : (s.heap.push (seqObj "list" #[] 0)).get? s.heap.objs.size = some (seqObj "list" #[] 0) := Heap.get?_push_size _ rfl
  unfold collect
  refine wpAny_bind (wpAny_runValue (codeAny_builtin entry_proto_collect' ?_))
  show wpAny _ _ (do again (.builtin "list.__iadd__" ⟨[← newList [], .ref l], []⟩)) _ _ s
  refine wpAny_bind (wpAny_newList (wpAny_pure ⟨Code.quiet_builtin _ (by decide +kernel), codeAny_builtin entry_list_iadd' ?_⟩))
  show wpAny _ _ (Builtin.List.listExtendWith (.ref s.heap.objs.size) (.ref l) (.ref s.heap.objs.size)) _ _ { s with heap := s.heap.push (seqObj "list" #[] 0) }
  unfold Builtin.List.listExtendWith
  refine wpAny_bind (wpAny_typeOf (T := "tuple") ⟨o, own, hc⟩ ?_)
  have isT : (Value.type "tuple" == Value.type "tuple") = true := rfl
  rw [if_pos (by rw [isT, Bool.or_true])]
  refine wpAny_bind (listItems_at own hd (wpAny_bind (listItems_at (xs := #[]) (n := 0) new rfl ?_)))
  rw [if_neg (by simp)]
  refine wpAny_bind (listUpdate_at (xs := #[]) (n := 0) new rfl (wpAny_pure ?_) (Nat.zero_le _) (by show (#[] ++ vs.toArray).size ≤ sizeLine + 1; simp only [Array.size_append, List.size_toArray, List.length_nil]; omega))
  refine wpAny_bind (wpAny_load (get?_update_seq new _) ?_)
  show wpAny _ _ (pure ((#[] : Array Value) ++ vs.toArray).toList) Q E _
  have e : ((#[] : Array Value) ++ vs.toArray).toList = vs := by simp
  rw [e]
  exact wpAny_pure h
/-- sorted(t), t a tuple: a new list, the sorted one -/
theorem sorted_tup {κ : PyProof.Rows.KeyKind} {l : Addr} {vs : List Value} {Q : Value → Shared → Prop} (hl : IsTup s.heap l vs.toArray) (hL : vs.length ≤ sizeLine) (S : SortsAt prog w A.in1.in1 { s with heap := sortingHeap (copyHeap s.heap vs) (s.heap.objs.size + 1) vs } κ vs)
    (h : Q (.ref (s.heap.objs.size + 1)) { s with heap := sortedAll s.heap vs (sortVals κ false vs vs).toArray }) : wpAny (model prog w) A (call (.builtin "sorted") [.ref l]) Q E s := by
  refine call_function_entry_kw kind_sorted plain_sorted entry_sorted (args_sorted1 _) ?_
  unfold Builtin.«sorted»
  refine wpAny_bind (m := checkCount "sorted" 1 1 _) (wpAny_pure (wpAny_bind (collect_tup hl hL (wpAny_bind (wpAny_newList ?_ hL)))))
  have hsz : ((s.heap.push (seqObj "list" #[] 0)).update s.heap.objs.size (Obj.mapSeq (· ++ vs.toArray))).objs.size = s.heap.objs.size + 1 := by
    rw [Heap.size_update, size_push']
  show wpAny _ _ _ _ _ { s with heap := copyHeap s.heap vs }
  rw [hsz]
  refine wpAny_bind (wpAny_holding (wpAny_call_entry_kw slot_list_sort ⟨_, copyHeap_at s.heap vs, rfl⟩ entry_list_sort ?_ (args_list_sort _)))
  exact list_sort_vals (s := { s with heap := copyHeap s.heap vs }) (copyHeap_at s.heap vs) S hL ⟨.none, rfl, wpAny_pure ⟨_, rfl, h⟩⟩
theorem sorted_dataT {β : Type} {vs : List Value} {bs : List β} {enc : β → PyData} {R : Value → β → Prop} {l : Addr} {Q : Value → Shared → Prop} (hl : IsTup s.heap l vs.toArray) (e : EachIs R vs bs) (er : EachIs (fun v b => ∃ as, Reads s.heap v (enc b) as) vs bs) (hal : AllAlike (bs.map enc)) (hk : Sortable (bs.map enc)) (hL : bs.length ≤ sizeLine)
    (hu : ∀ b, b ∈ bs → A.units + 2 + (enc b).depth < cLine) (h : ∀ out, out.length = bs.length → EachIs R out (bs.mergeSort (dataLe false enc)) → Q (.ref (s.heap.objs.size + 1)) { s with heap := sortedAll s.heap vs (List.toArray out) }) :
    wpAny (model prog w) A (call (.builtin "sorted") [.ref l]) Q E s := by
  have old : EachIs (fun v b => ∃ as, Reads (sortingHeap (copyHeap s.heap vs) (s.heap.objs.size + 1) vs) v (enc b) as) vs bs := er.mono fun _ _ ⟨as, r⟩ => ⟨as, PyProof.Rows.Reads.keeps (fun _ _ => sorting_copy_old) r⟩
  refine sorted_tup hl (by rw [e.length]; exact hL) (SortsAt.data (s := { s with heap := sortingHeap (copyHeap s.heap vs) (s.heap.objs.size + 1) vs }) (each_map (R := fun v d => ∃ as, Reads (sortingHeap (copyHeap s.heap vs) (s.heap.objs.size + 1) vs) v d as) enc old) hal hk (bound_map hu)) ?_
  exact h _ (by rw [sortVals_length false rfl]; exact e.length) (sortVals_data false e old hal)
end
end Lw

namespace Lw
open PySem PySem.Spec PyProof.Rows L2
/-! ### sorted of a list or a tuple of data that are alike -/
open PySem.W in
def rSortedM (K : PySem.W.Frag) : List V → Hp → VK → Prop := fun vs H Q => ∃ (β : Type) (a : Addr) (bs : List β) (cv : β → V) (enc : β → PyData), vs = [.ref a] ∧ (SqL K H a (bs.map cv) ∨ SqT K H a (bs.map cv)) ∧ (∀ b ∈ bs, Dp K H (cv b) (enc b)) ∧
  AllAlike (bs.map enc) ∧ Sortable (bs.map enc) ∧ (∀ b ∈ bs, (enc b).depth ≤ 60) ∧ ∀ p, H p = none → Q (.ref p) (upd H p (.lst ((bs.mergeSort (dataLe false enc)).map cv)))
section
open PySem.W
theorem each_rel {β : Type} {cv : β → V} : ∀ {bs : List β} {its : List Value}, Vals (bs.map cv) its → EachIs (fun u b => RelV (cv b) u) its bs
  | [], _, r => by
    cases r
    exact .nil
  | b :: bs, _, r => by
    cases r with
    | cons h t => exact .cons h (each_rel t)
theorem rel_each {β : Type} {cv : β → V} : ∀ {bs : List β} {its : List Value}, EachIs (fun u b => RelV (cv b) u) its bs → Vals (bs.map cv) its
  | _, _, .nil => .nil
  | _, _, .cons h t => .cons h (rel_each t)
theorem each_and {α β : Type} {R S : α → β → Prop} : ∀ {as : List α} {bs : List β}, EachIs R as bs → (∀ b ∈ bs, ∀ a, R a b → S a b) → EachIs S as bs
  | _, _, .nil, _ => .nil
  | _, _, .cons h t, k => .cons (k _ List.mem_cons_self _ h) (each_and t fun b hb => k b (List.mem_cons_of_mem _ hb))
theorem cr_sortedM {X : Cx} (hu : X.A.units + 64 < cLine) : CallR X (.builtin "sorted") (rSortedM X.K) := by
  intro pins s σ H vs us Q I r h
  obtain ⟨β, a, bs, cv, enc, rfl, hq, hd, hal, hk, hdep, q⟩ := h
  obtain ⟨u, rfl, rx⟩ := vals1 r
  cases rx
  have fin : ∀ (its : List Value), bs.length ≤ sizeLine → ∀ out : List Value, out.length = bs.length → EachIs (fun u b => RelV (cv b) u) out (bs.mergeSort (dataLe false enc)) →
      EP X pins σ Q (.ref (s.heap.objs.size + 1)) { s with heap := sortedAll s.heap its out.toArray } := fun its hz out ho he => by
    obtain ⟨ep, hat⟩ := sortedAll_at s.heap its out.toArray
    refine ⟨.ref _, upd H (s.heap.objs.size + 1) (.lst ((bs.mergeSort (dataLe false enc)).map cv)), I.laid (t' := s.toks) (fun _ _ => sortedAll_old) (Nat.le_succ _) ⟨?_, out, ep, rel_each he, hat⟩, rfl, q _ (I.hok.fresh (Nat.le_succ _))⟩
    rw [List.length_map, List.length_mergeSort]
    exact hz
  have units : ∀ b, b ∈ bs → X.A.units + 2 + (enc b).depth < cLine := fun b hb => by
    have := hdep b hb
    omega
  rcases hq with hq | hq
  · obtain ⟨its, rv, hl, hz⟩ := I.list hq
    have hn := rv.length
    rw [List.length_map] at hz hn
    have e := each_rel rv
    refine sorted_data hl.isList e (each_and e fun b hb v hv => Dp.reads I _ _ _ (hd b hb) hv) hal hk (by omega) units fun out ho he => fin its (by omega) out ho he
  · obtain ⟨its, rv, hl, hz⟩ := I.tuple hq
    have hn := rv.length
    rw [List.length_map] at hz hn
    have e := each_rel rv
    refine sorted_dataT hl e (each_and e fun b hb v hv => Dp.reads I _ _ _ (hd b hb) hv) hal hk (by omega) units fun out ho he => fin its (by omega) out ho he
end
/-! ### enumerate of a tuple -/
open Sem (wp) in
open AutoSeq1 (wpAny_loadPart') in
theorem meets_enum_tup (t : Addr) (items : Array Value) (n : Nat) (dct : Option Addr) (sl : Array (Option Value)) :
    Meets (Builtin.«enumerate.__new__» ⟨[.type "enumerate", .ref t], []⟩) (fun _ R s => s.heap.get? t = some { cls := .type "tuple", dict := dct, data := .seq items n, slots := sl } ∧
      R (.ok (.ret (.ref (s.heap.push { cls := .type "tuple_iterator", data := .fields #[.ref t, .int 0 0] }).objs.size)))
        { s with heap := (s.heap.push { cls := .type "tuple_iterator", data := .fields #[.ref t, .int 0 0] }).push { cls := .type "enumerate", data := .fields #[.none, .bool false, .ref s.heap.objs.size, rawInt 0, .none, .none] } }) :=
  .of_wp fun prog w A R s h => by
    obtain ⟨hp, g, d, tk, os⟩ := s
    obtain ⟨hl, h⟩ := h
    have hsub := sub_enumerate
    have hT : Heap.IsTuple (Shared.heap ⟨hp, g, d, tk, os⟩) t items := ⟨_, hl, rfl, n, rfl⟩
    wp_walk using wpAny_loadPart' hl
    refine wpAny_stack_any fun st => wpAny_pure ?_
    split
    · rename_i c _ _ _ _ _
      cases (c == Value.type "enumerate") <;> (wp_walk using wpAny_loadPart' hl, wpAny_pyIter_tuple hT; exact ⟨_, rfl, h⟩)
    · wp_walk using wpAny_loadPart' hl, wpAny_pyIter_tuple hT
      exact ⟨_, rfl, h⟩
theorem call_enum_tup {prog : Program} {w : World} {A : Around} {E : Value → Shared → Prop} {s : Shared} {t : Addr} {items : Array Value} {Q : Value → Shared → Prop} (hT : s.heap.IsTuple t items)
    (h : ∀ h', IsEnum h' (s.heap.objs.size + 1) s.heap.objs.size 0 .none → h'.IsTupleIter s.heap.objs.size t 0 → (∀ b o, s.heap.get? b = some o → h'.get? b = some o) → Q (.ref (s.heap.objs.size + 1)) { s with heap := h' }) :
    wpAny (model prog w) A (call (.type "enumerate") [.ref t]) Q E s := by
  obtain ⟨⟨c, dct, dt, sl⟩, hl, hc, n, hd⟩ := hT
  obtain rfl : c = .type "tuple" := hc
  obtain rfl : dt = .seq items n := hd
  refine callType_new F.called_enumerate (by decide) (F.typeCall_enumerate_1 _) (F.newCall_enumerate_1 _) (fun obj => F.args_object_init_2 obj _) F.entry_enumerate_new (meets_enum_tup t items n dct sl) ⟨hl, ?_⟩
  have hz : (s.heap.push { cls := .type "tuple_iterator", data := .fields #[.ref t, .int 0 0] }).objs.size = s.heap.objs.size + 1 := Heap.size_push ..
  show _ ∧ _
  rw [hz]
  have he : IsEnum ((s.heap.push { cls := .type "tuple_iterator", data := .fields #[.ref t, .int 0 0] }).push { cls := .type "enumerate", data := .fields #[.none, .bool false, .ref s.heap.objs.size, rawInt 0, .none, .none] }) (s.heap.objs.size + 1) s.heap.objs.size 0 .none := by
    have z := Heap.get?_push_size (s.heap.push { cls := .type "tuple_iterator", data := .fields #[.ref t, .int 0 0] }) (o := { cls := .type "enumerate", data := .fields #[.none, .bool false, .ref s.heap.objs.size, rawInt 0, .none, .none] }) rfl
    rw [hz] at z
    exact z
  exact ⟨⟨_, he, rfl⟩, h _ he ⟨_, Heap.get?_push_of_some _ (Heap.get?_push_size _ rfl), rfl, rfl⟩ fun b o x => Heap.get?_push_of_some _ (Heap.get?_push_of_some _ x)⟩
/-- the tuple at a as it stands, each item in a new pair -/
def IteT (K : PySem.W.Frag) (a : Addr) : It :=
  ⟨fun i H => ∃ (xs : List V) (x : V), SqT K H a xs ∧ xs[i]? = some x, fun i H v H' => ∃ T x, v = .ref T ∧ H T = none ∧ H' = upd H T (.tup [.int (i : Nat), x]) ∧ ∀ xs, SqT K H a xs → xs[i]? = some x, fun i H => ∃ xs : List V, SqT K H a xs ∧ xs.length = i⟩
theorem turn_enumT {P : Program} {w : World} {K : PySem.W.Frag} {elts : List Expr} {kk : Nat} {tpos : Pos} (a e it : Addr) (hai : a ≠ it) (hae : a ≠ e) :
    Turn P w K (.Tuple elts kk tpos) (IteT K a) [e, it] e (fun i h => (∃ old, IsEnum h e it ((i : Nat) : Int) old) ∧ h.IsTupleIter it a i ∧ e ≠ it) where
  mem := by simp
  obj := fun i h st b hb => by
    obtain ⟨⟨old, he⟩, ⟨o, ho, hc, hd⟩, _⟩ := st
    rcases List.mem_cons.mp hb with z | z
    · rw [z]
      exact ⟨_, he, fun v q => nomatch q⟩
    · rw [List.mem_singleton.mp z]
      exact ⟨o, ho, fun v q => by rw [hd] at q; cases q⟩
  keep := fun i h h' st k => let ⟨⟨old, he⟩, hi, hne⟩ := st; ⟨⟨old, k e (by simp) _ he⟩, hi.at fun o q => k it (by simp) o q, hne⟩
  item := by
    intro X hP hw hK hc i pins s σ H E I hf st hg
    subst hP hw hK
    obtain ⟨⟨old, he⟩, hit, hne⟩ := st
    obtain ⟨xs, x, hq, hx⟩ := hg
    obtain ⟨its, rv, tp, hz⟩ := I.tuple hq
    obtain ⟨u, hu, ru⟩ := rv.get hx
    have hel : e < s.heap.objs.size := Heap.lt_size he
    have hil : it < s.heap.objs.size := by
      obtain ⟨_, q, _⟩ := hit
      exact Heap.lt_size q
    have hiz : i < its.toArray.size := by
      rw [List.size_toArray]
      exact (List.getElem?_eq_some_iff.mp hu).1
    have hhd : X.A.in1.handled = none := I.ok.hd hc
    refine wpAny_pyNext_enum_itemD (Draws.tuple hhd it a hai its.toArray) he ⟨hit, tp⟩ hiz hne (by simp [hne, Ne.symm hae]) fun x' h' tk hPx ho hst hT hsz hk => ?_
    have ex : x' = u := by
      rw [show its.toArray[i]? = some u by simpa using hu] at hPx
      exact (Option.some.inj hPx).symm
    subst ex
    refine ⟨_, rfl, wpAny_letOwnedTupleGo_enum (s := { s with heap := h', toks := tk + 1 }) ho fun h'' he' sb => ?_⟩
    have hT2 : h''.get? s.heap.objs.size = some { cls := .type "tuple", data := .seq #[.int i tk, x'] } := (sb.2 _ (Nat.ne_of_gt hel)).trans hT
    have new : ObjOk X.prog X.w (upd H s.heap.objs.size (.tup [.int (i : Nat), x])) h'' s.heap.objs.size (.tup [.int (i : Nat), x]) :=
      ⟨by show 2 ≤ sizeLine; decide, [.int i tk, x'], .cons ⟨_, rfl⟩ (.cons ru .nil), ⟨_, hT2, rfl, _, rfl⟩⟩
    have I1 : Inv X pins σ (upd H s.heap.objs.size (.tup [.int (i : Nat), x])) { s with heap := h'', toks := tk + 1 } :=
      I.turnedNew (ch := [e, it]) (fun b ob hb q => (sb.2 b (fun z => hb (by simp [z]))).trans (hk b ob (fun z => hb (by simp [z])) (fun z => hb (by simp [z])) q)) hf (Nat.le_refl _) new
    refine ⟨.ref s.heap.objs.size, _, I1, rfl, ⟨_, x, rfl, I.hok.fresh (Nat.le_refl _), rfl, fun ys hy => ?_⟩, ⟨⟨x', ?_⟩, hst.1.at fun o q => (sb.2 it (Ne.symm hne)).trans q, hne⟩, fun b hb => ?_⟩
    · rw [I.tuple_inj hy hq]
      exact hx
    · have e1 : ((i + 1 : Nat) : Int) = (i : Int) + 1 := by omega
      rw [e1]
      exact he'
    · have hb' : b < s.heap.objs.size := by
        rcases List.mem_cons.mp hb with z | z
        · rw [z]
          exact hel
        · rw [List.mem_singleton.mp z]
          exact hil
      rw [upd_ne (Nat.ne_of_lt hb')]
      exact (hf b hb).1
  done := by
    intro X hP hw hK hc i pins s σ H E I hf st hg
    subst hP hw hK
    obtain ⟨⟨old, he⟩, hit, hne⟩ := st
    obtain ⟨xs, hq, hx⟩ := hg
    obtain ⟨its, rv, tp, hz⟩ := I.tuple hq
    obtain ⟨f0, f1, f2, f3, f4, f5⟩ := hf it (by simp)
    have hl := rv.length
    obtain rfl : i = its.toArray.size := by rw [List.size_toArray]; omega
    have hhd : X.A.in1.handled = none := I.ok.hd hc
    exact wpAny_pyNext_enum_endD (Draws.tuple hhd it a hai its.toArray) he ⟨hit, tp⟩ fun h' eb => ⟨rfl, I.turned (t' := s.toks) (fun b o hb q => eb b o hb q) f0 f1 f3 f4 f5⟩
  self := fun A i s Q E st h => let ⟨⟨_, he⟩, _⟩ := st; wpAny_pyIter_enum he h
end Lw

namespace Lw
open PySem PySem.Spec PyProof.Rows L2
/-! ### enumerate of a list or a tuple -/
def iEnumS (K : PySem.W.Frag) (ta : TA) : TI := fun σ H R => ta σ H fun vs H1 => ∃ a xs, vs = [.ref a] ∧ ((SqL K H1 a xs ∧ R (Ite K a) H1) ∨ (SqT K H1 a xs ∧ R (IteT K a) H1))
theorem pi_enumS {X : Cx} {e : Expr} {ta : TA} {p pos tpos : Pos} {elts : List Expr} {kk : Nat} (hg : Gl X "enumerate") (hm : X.mg "enumerate" = none) (ha : PA X [e] ta) (hs : starEach [e] X.env = [(false, eval e X.env)] := by rfl) :
    PI X (.Tuple elts kk tpos) (.Call (.Name "enumerate" p) [e] [] pos) (iEnumS X.K ta) := by
  refine ⟨fun pins s σ H R I h => ?_⟩
  refine Call_ (ld_blt I hg hm boot_enumerate (PyProof.Rows.callWith_type1 (thn (ha.run pos pins s σ H _ I h) fun us s1 ⟨vs, H1, I1, r1, q1⟩ => ?_) hs rfl))
  obtain ⟨a, xs, ex, q1⟩ := q1
  subst ex
  cases r1 with
  | cons r rr =>
    cases rr
    cases r
    have end_ : ∀ b, b ∈ [s1.heap.objs.size + 1, s1.heap.objs.size] → s1.heap.objs.size ≤ b := fun b hb => by
      have e' : b = s1.heap.objs.size + 1 ∨ b = s1.heap.objs.size := by simpa using hb
      rcases e' with z | z
      · rw [z]; exact Nat.le_add_right _ _
      · rw [z]; exact Nat.le_refl _
    rcases q1 with ⟨hq, q⟩ | ⟨hq, q⟩
    · obtain ⟨its, rv, p', hz⟩ := I1.list hq
      refine call_enumerate_list p'.isList fun h' he hit hsz hk => wpAny_pyIter_enum he ?_
      have I2 : Inv X pins σ H1 { s1 with heap := h' } := I1.kept (t' := s1.toks) hk
      exact ⟨s1.heap.objs.size + 1, [s1.heap.objs.size + 1, s1.heap.objs.size], _, _, H1, rfl, I2, turn_enum a (s1.heap.objs.size + 1) s1.heap.objs.size, ⟨⟨.none, he⟩, hit, Nat.succ_ne_self _⟩, fun b hb => I1.fpOk (end_ b hb) (I1.hok.fresh (end_ b hb)), q⟩
    · obtain ⟨its, rv, tp, hz⟩ := I1.tuple hq
      have hlt : a < s1.heap.objs.size := by
        obtain ⟨o, ho, _⟩ := id tp
        exact Heap.lt_size ho
      refine call_enum_tup tp fun h' he hit hk => wpAny_pyIter_enum he ?_
      have I2 : Inv X pins σ H1 { s1 with heap := h' } := I1.kept (t' := s1.toks) hk
      exact ⟨s1.heap.objs.size + 1, [s1.heap.objs.size + 1, s1.heap.objs.size], _, _, H1, rfl, I2, turn_enumT a (s1.heap.objs.size + 1) s1.heap.objs.size (Nat.ne_of_lt hlt) (Nat.ne_of_lt (Nat.lt_succ_of_lt hlt)), ⟨⟨.none, he⟩, hit, Nat.succ_ne_self _⟩, fun b hb => I1.fpOk (end_ b hb) (I1.hok.fresh (end_ b hb)), q⟩
section
variable {K : PySem.W.Frag} {a : Addr} {xs : List V}
theorem walk_enumT : Walk (IteT K a) xs.length (fun H => SqT K H a xs) (YPair (fun i => some (.int (i : Nat))) (fun i => xs[i]?)) := by
  refine ⟨fun i _ hi q => ⟨xs, xs[i], q, by simp [hi]⟩, fun _ q => ⟨xs, q, rfl⟩, fun i H v H' _ q y => ?_⟩
  obtain ⟨T, x, h1, h2, h3, h4⟩ := y
  exact ⟨T, .int (i : Nat), x, h1, h2, h3, rfl, h4 xs q⟩
end
section
open Evl
variable {K : PySem.W.Frag} {σ : L2.St} {H : Hp} {D : Ends} {te : TE} {tu tz : TS} {x : V}
theorem s_forEn {a : Addr} {xs : List V} {j k : Nat} (h : Ev te σ H (.ref a)) (hx : SqL K H a xs ∨ SqT K H a xs) (Pv : Nat → L2.St → Hp → Prop) (h0 : ∀ H1, Ex H H1 → Pv 0 σ H1) (hl : ∀ i σ' H', Pv i σ' H' → Ex H H')
    (hs : ∀ i x σ' H' T, xs[i]? = some x → Pv i σ' H' → H' T = none → tu { D with nx := Pv (i + 1), ct := Pv (i + 1), bk := D.nx } ((σ'.set j (some (.int (i : Nat)))).set k (some x)) (upd H' T (.tup [.int (i : Nat), x])))
    (hd : ∀ σ' H', Pv xs.length σ' H' → D.nx σ' H') : tFor (iEnumS K (tCons te tNil)) (gTup K 2 (gCons (gName j) (gCons (gName k) gNil))) tu D σ H := by
  refine h H (Ex.refl H) _ fun H1 e => ⟨a, xs, rfl, ?_⟩
  have go : ∀ i x σ' H' H2, i < xs.length → Pv i σ' H' → YPair (fun i => some (.int (i : Nat))) (fun i => xs[i]?) i H' x H2 → gTup K 2 (gCons (gName j) (gCons (gName k) gNil)) x σ' H2 fun σ2 H2 => tu { D with nx := Pv (i + 1), ct := Pv (i + 1), bk := D.nx } σ2 H2 := fun i x σ' H' H2 hi p y => by
    obtain ⟨T, x1, x2, rfl, nT, rfl, e1, e2⟩ := y
    cases e1
    exact ⟨T, _, rfl, st_of upd_same, rfl, _, _, rfl, _, _, rfl, rfl, hs i x2 σ' H' T e2 p nT⟩
  rcases hx with hx | hx
  · exact .inl ⟨ex_l e hx, for_it walk_enum Pv (h0 H1 e) (fun i σ' H' _ p => ex_l (hl i σ' H' p) hx) go hd⟩
  · exact .inr ⟨ex_t e hx, for_it walk_enumT Pv (h0 H1 e) (fun i σ' H' _ p => ex_t (hl i σ' H' p) hx) go hd⟩
theorem q_forEn {a : Addr} {xs : List V} {j k : Nat} (h : Ev te σ H (.ref a)) (hx : SqL K H a xs ∨ SqT K H a xs) (Pv : Nat → L2.St → Hp → Prop) (h0 : ∀ H1, Ex H H1 → Pv 0 σ H1) (hl : ∀ i σ' H', Pv i σ' H' → Ex H H')
    (hs : ∀ i x σ' H' T, xs[i]? = some x → Pv i σ' H' → H' T = none → tu { D with nx := Pv (i + 1), ct := Pv (i + 1), bk := tz D } ((σ'.set j (some (.int (i : Nat)))).set k (some x)) (upd H' T (.tup [.int (i : Nat), x])))
    (hd : ∀ σ' H', Pv xs.length σ' H' → tz D σ' H') : tSeq (tFor (iEnumS K (tCons te tNil)) (gTup K 2 (gCons (gName j) (gCons (gName k) gNil))) tu) tz D σ H := s_forEn (D := { D with nx := tz D }) h hx Pv h0 hl hs hd
/-! ### a slice of a list or a tuple -/
def EvS (te : TE) (K : PySem.W.Frag) (σ : L2.St) (H : Hp) (xs : List V) : Prop := ∀ H1, Ex H H1 → ∀ Q : VK, (∀ p H2, Ex H1 H2 → (SqL K H2 p xs ∨ SqT K H2 p xs) → Q (.ref p) H2) → te σ H1 Q
theorem cutV_to (xs : List V) (k : Nat) : cutV xs none (some (k : Int)) = xs.take k := by
  unfold cutV HT.sIx
  simp only [List.drop_zero, Nat.sub_zero]
  have : ¬ ((k : Int) < 0) := by omega
  simp [this]
theorem es_sl {tl th : TO} {a : Addr} {xs : List V} {lo hi : Option Int} (h : Ev te σ H (.ref a)) (h1 : EvO tl σ H lo) (h2 : EvO th σ H hi) (hs : SqL K H a xs ∨ SqT K H a xs) :
    EvS (tSl (fun x lo hi H Q => rSlL K x lo hi H Q ∨ rSlA K x lo hi H Q) te tl th) K σ H (cutV xs lo hi) := fun H1 e Q q =>
  h H1 e _ fun H2 e2 => h1 H2 (e.trans e2) _ fun H3 e3 => h2 H3 ((e.trans e2).trans e3) _ fun H4 e4 => by
    have e14 := (e2.trans e3).trans e4
    rcases hs with hs | hs
    · exact .inl ⟨a, xs, rfl, ex_l (e.trans e14) hs, fun p hp => q p _ (e14.trans (Ex.new hp)) (.inl (sq_of upd_same))⟩
    · refine .inr ⟨a, xs, rfl, ex_t (e.trans e14) hs, fun hw => ?_, fun hw p hp => q p _ (e14.trans (Ex.new hp)) (.inr (st_of upd_same))⟩
      have : cutV xs lo hi = xs := by
        unfold cutV
        rw [hw.1, hw.2, List.drop_zero, Nat.sub_zero, List.take_of_length_le (Nat.le_refl _)]
      rw [this] at q
      exact q a _ e14 (.inr (ex_t (e.trans e14) hs))
theorem ev_inS {ta tb : TE} {neg : Bool} {xs : List V} (ha : Ev ta σ H x) (hb : EvS tb K σ H xs) (hx : flatV x = true) (hf : xs.all flatV = true) : Ev (tOp (rIn K neg) ta tb) σ H (.bl (if neg then !inV x xs else inV x xs)) := fun H1 e Q q =>
  ha H1 e _ fun H2 e2 => hb H2 (e.trans e2) _ fun p H3 e3 hp => ⟨p, xs, rfl, hp, hx, hf, q H3 (e2.trans e3)⟩
theorem inV_strs (s : Str) (ws : List Str) : inV (.str s) (ws.map V.str) = decide (s ∈ ws) := by
  induction ws with
  | nil => rfl
  | cons w r ih =>
    unfold inV at ih ⊢
    rw [List.map_cons, List.any_cons, ih, Bool.eq_iff_iff]
    rw [Bool.or_eq_true, decide_eq_true_iff, decide_eq_true_iff, List.mem_cons]
    have : eqV (.str w) (.str s) = true ↔ s = w := by
      show (w == s) = true ↔ _
      rw [beq_iff_eq]
      exact eq_comm
    rw [this]
theorem flat_strs (ws : List Str) : (ws.map V.str).all flatV = true := by
  rw [List.all_map, List.all_eq_true]
  intro x _
  rfl
end
theorem dp_ex {K : PySem.W.Frag} {H H' : Hp} (e : Evl.Ex H H') : ∀ (d : PyData) (v : V), Dp K H v d → Dp K H' v d := by
  intro d v h
  exact Dp.rec (motive_1 := fun v d _ => Dp K H' v d) (motive_2 := fun vs ds _ => DpAll K H' vs ds) .non (fun b => .bl b) (fun i => .int i) (fun s => .str s) (fun hs _ ih => .lst (Evl.ex_l e hs) ih) (fun hs _ ih => .tup (Evl.ex_t e hs) ih) .nil (fun _ _ h1 h2 => .cons h1 h2) h
end Lw

namespace Lw
open PySem PySem.Spec PyProof.Rows L2
open PySem.W (dataLe dataLe_str)
/-! ### what goods_of answers -/
inductive GR
  | cnt
  | nm (s : Str)
  | tw (s : Str)
  | ok
  deriving DecidableEq
def scan : List Str → List Str → GR
  | _, [] => .ok
  | seen, s :: r => if vn s = false then .nm s else if s ∈ seen then .tw s else scan (seen ++ [s]) r
def gres (ws : List Str) : GR := if ws.length < 1 ∨ 5 < ws.length then .cnt else scan [] ws
theorem scan_step {ws : List Str} {i : Nat} {s : Str} (h : ws[i]? = some s) : scan (ws.take i) (ws.drop i) = if vn s = false then .nm s else if s ∈ ws.take i then .tw s else scan (ws.take (i + 1)) (ws.drop (i + 1)) := by
  have hi := (List.getElem?_eq_some_iff.mp h)
  obtain ⟨hi, e⟩ := hi
  rw [List.drop_eq_getElem_cons hi, e, scan, List.take_add_one, h]
  rfl
theorem scan_end (ws : List Str) : scan (ws.take ws.length) (ws.drop ws.length) = .ok := by
  rw [List.drop_length]
  rfl
theorem gres_in {ws : List Str} (h1 : 1 ≤ ws.length) (h5 : ws.length ≤ 5) : gres ws = scan (ws.take 0) (ws.drop 0) := by
  unfold gres
  rw [if_neg (by omega)]
  rfl
theorem scan_ok : ∀ (r seen : List Str), seen.Nodup → (scan seen r = .ok ↔ (∀ s ∈ r, vn s = true) ∧ (seen ++ r).Nodup)
  | [], seen, h => by
    rw [List.append_nil]
    exact ⟨fun _ => ⟨fun _ h => (nomatch h), h⟩, fun _ => rfl⟩
  | s :: r, seen, h => by
    rw [scan]
    by_cases h1 : vn s = false
    · rw [if_pos h1]
      refine ⟨fun h => (nomatch h), fun k => ?_⟩
      rw [k.1 s List.mem_cons_self] at h1
      cases h1
    · rw [if_neg h1]
      by_cases h2 : s ∈ seen
      · rw [if_pos h2]
        refine ⟨fun h => (nomatch h), fun k => ?_⟩
        exact absurd rfl ((List.nodup_append.mp k.2).2.2 s h2 s List.mem_cons_self)
      · rw [if_neg h2]
        have hn : (seen ++ [s]).Nodup := List.nodup_append.mpr ⟨h, by simp, fun a ha b hb e => by
          rw [List.mem_singleton] at hb
          rw [e, hb] at ha
          exact h2 ha⟩
        rw [scan_ok r (seen ++ [s]) hn, List.append_assoc]
        have : vn s = true := by simpa using h1
        refine ⟨fun k => ⟨fun t ht => ?_, k.2⟩, fun k => ⟨fun t ht => k.1 t (List.mem_cons_of_mem _ ht), k.2⟩⟩
        rcases List.mem_cons.mp ht with rfl | ht
        · exact this
        · exact k.1 t ht
theorem gres_ok {ws : List Str} : gres ws = .ok ↔ (1 ≤ ws.length ∧ ws.length ≤ 5) ∧ (∀ s ∈ ws, vn s = true) ∧ ws.Nodup := by
  unfold gres
  by_cases h : ws.length < 1 ∨ 5 < ws.length
  · rw [if_pos h]
    exact ⟨fun h => (nomatch h), fun k => by omega⟩
  · rw [if_neg h, scan_ok ws [] List.nodup_nil]
    exact ⟨fun k => ⟨by omega, k⟩, fun k => k.2⟩
/-- in order -/
def srt (ws : List Str) : List Str := ws.mergeSort (dataLe false PyData.str)
theorem srt_eq (ws : List Str) : srt ws = ws.mergeSort fun a b => decide (a.cps.toList ≤ b.cps.toList) := by
  unfold srt
  rw [show dataLe false PyData.str = dataLe false (fun b : Str => .str (id b)) from rfl, dataLe_str]
  rfl
theorem srt_perm (ws : List Str) : (srt ws).Perm ws := List.mergeSort_perm ws _
theorem srt_len (ws : List Str) : (srt ws).length = ws.length := (srt_perm ws).length_eq
theorem srt_mem {ws : List Str} {s : Str} : s ∈ srt ws ↔ s ∈ ws := (srt_perm ws).mem_iff
theorem srt_sorted (ws : List Str) : (srt ws).Pairwise fun a b => decide (a.cps.toList ≤ b.cps.toList) = true := by
  rw [srt_eq]
  refine List.pairwise_mergeSort (fun a b c h1 h2 => ?_) (fun a b => ?_) ws
  · rw [decide_eq_true_iff] at h1 h2 ⊢
    exact List.le_trans h1 h2
  · rw [Bool.or_eq_true, decide_eq_true_iff, decide_eq_true_iff]
    exact List.le_total _ _
theorem srt_idem (ws : List Str) : srt (srt ws) = srt ws := by
  rw [srt_eq (srt ws)]
  exact List.mergeSort_of_pairwise (srt_sorted ws)
theorem gres_srt {ws : List Str} (h : gres ws = .ok) : gres (srt ws) = .ok := by
  rw [gres_ok] at h ⊢
  rw [srt_len]
  exact ⟨h.1, fun s hs => h.2.1 s (srt_mem.mp hs), (srt_perm ws).nodup_iff.mpr h.2.2⟩
/-! ### the contracts -/
def TxtOk (ws : List Str) : Prop := ∀ s ∈ ws, s.length ≤ 1000 ∧ SOk s
theorem srt_ok {ws : List Str} (h : TxtOk ws) : TxtOk (srt ws) := fun s hs => h s (srt_mem.mp hs)
def SqS (K : PySem.W.Frag) (H : Hp) (a : Addr) (ws : List Str) : Prop := SqL K H a (ws.map V.str) ∨ SqT K H a (ws.map V.str)
theorem sqs_ex {K : PySem.W.Frag} {H H' : Hp} {a : Addr} {ws : List Str} (e : Evl.Ex H H') (h : SqS K H a ws) : SqS K H' a ws := h.elim (fun h => .inl (Evl.ex_l e h)) fun h => .inr (Evl.ex_t e h)
def goodsAt (CB CN CD : Addr) (ws : List Str) (H1 : Hp) (Q : VK) (E : XK) : Prop := match gres ws with
  | .cnt => ∀ d, H1 d = none → E (.ref CB) (some d) (upd H1 d (.xd [("count", .int (ws.length : Int))]))
  | .nm s => ∀ d, H1 d = none → E (.ref CN) (some d) (upd H1 d (.xd [("name", .str s)]))
  | .tw s => ∀ d, H1 d = none → E (.ref CD) (some d) (upd H1 d (.xd [("name", .str s)]))
  | .ok => ∀ p, H1 p = none → Q (.ref p) (upd H1 p (.tup ((srt ws).map V.str)))
def sp_goods (K : PySem.W.Frag) (CB CN CD : Addr) : Sp := fun vs H Q E => ∃ (a : Addr) (ws : List Str), vs = [.ref a] ∧ SqS K H a ws ∧ TxtOk ws ∧ ws.length ≤ 1000 ∧ ∀ H1, Evl.Ex H H1 → goodsAt CB CN CD ws H1 Q E
/-- a class of the module -/
theorem pe_cls {X : Cx} {x : Str} {p : Pos} {C : Addr} (hg : Gl X x) (hm : X.mg x = some (.ref C)) (hdb : (x == ("__debug__" : Str)) = false := by decide) : PE X (.Name x p) (tC (.ref C)) := pe_gv hg ⟨_, hm, rfl⟩ hdb
/-- a class of errors with one field -/
structure ErC (P : Program) (w : World) (K : PySem.W.Frag) (mg : Str → Option Value) (base : Heap) (x f : Str) (C fI : Addr) (fd : FuncData) : Prop where
  O : OexC K C
  X : XfC K C
  I : IsC K C
  i : PySem.W.findIn K (.ref C) "__init__" = some (some (.ref fI))
  t : PySem.W.typeIn K (.ref fI) = some (.type "function")
  no : PySem.W.findIn K (.ref C) f = some none
  g : mg x = some (.ref C)
  G : FnOk P w K mg base CX0 1 fI fd ["self", f] (sp_init1 K C f)
  b : Binds K fd ["self", f] []
/-- what is told, what is due -/
def TellAt (H : Hp) (p : Addr) (ws : List Str) : Prop := match gres ws with
  | .cnt => H p = some (.lst [.str "count", .int (ws.length : Int), .bl true])
  | .nm s => H p = some (.lst [.str "name", .str s, .bl true])
  | .tw s => H p = some (.lst [.str "twice", .str s, .bl true])
  | .ok => ∃ t, H p = some (.lst [.str "goods", .ref t]) ∧ H t = some (.tup ((srt ws).map V.str))
def tellD (ws : List Str) : PyData := match gres ws with
  | .cnt => .list [.str "count", .int (ws.length : Int), .bool true]
  | .nm s => .list [.str "name", .str s, .bool true]
  | .tw s => .list [.str "twice", .str s, .bool true]
  | .ok => .list [.str "goods", .tuple ((srt ws).map PyData.str)]
theorem TellAt.ex {H H' : Hp} {p : Addr} {ws : List Str} (e : Evl.Ex H H') (h : TellAt H p ws) : TellAt H' p ws := by
  unfold TellAt at h ⊢
  split at h
  · exact e _ _ h
  · exact e _ _ h
  · exact e _ _ h
  · obtain ⟨t, h1, h2⟩ := h
    exact ⟨t, e _ _ h1, e _ _ h2⟩
theorem TellAt.dp {K : PySem.W.Frag} {H : Hp} {p : Addr} {ws : List Str} (h : TellAt H p ws) : Dp K H (.ref p) (tellD ws) := by
  unfold TellAt at h
  unfold tellD
  split at h
  · exact .lst (Evl.sq_of h) (.cons (.str _) (.cons (.int _) (.cons (.bl _) .nil)))
  · exact .lst (Evl.sq_of h) (.cons (.str _) (.cons (.str _) (.cons (.bl _) .nil)))
  · exact .lst (Evl.sq_of h) (.cons (.str _) (.cons (.str _) (.cons (.bl _) .nil)))
  · obtain ⟨t, h1, h2⟩ := h
    exact .lst (Evl.sq_of h1) (.cons (.str _) (.cons (dp_strsT (Evl.st_of h2)) .nil))
theorem TellAt.head {H : Hp} {p : Addr} {ws : List Str} (h : TellAt H p ws) : ∃ (tag : Str) (r : List V), H p = some (.lst (.str tag :: r)) ∧ SOk tag ∧ (gres ws ≠ .ok → tag ≠ "goods") ∧ (gres ws = .ok → tag = "goods" ∧ ∃ t, r = [.ref t] ∧ H t = some (.tup ((srt ws).map V.str))) := by
  have lit : ∀ {z : Str}, (z.cps.toList.all fun c => decide (c < 0x110000)) = true → SOk z := fun {z} k c hc => by
    have := List.all_eq_true.mp k c hc
    exact of_decide_eq_true this
  unfold TellAt at h
  cases hg : gres ws with
  | cnt =>
    rw [hg] at h
    exact ⟨_, _, h, lit (by decide +kernel), (fun _ => by decide +kernel), (fun k => nomatch k)⟩
  | nm s =>
    rw [hg] at h
    exact ⟨_, _, h, lit (by decide +kernel), (fun _ => by decide +kernel), (fun k => nomatch k)⟩
  | tw s =>
    rw [hg] at h
    exact ⟨_, _, h, lit (by decide +kernel), (fun _ => by decide +kernel), (fun k => nomatch k)⟩
  | ok =>
    rw [hg] at h
    obtain ⟨t, h1, h2⟩ := h
    exact ⟨_, _, h1, lit (by decide +kernel), (fun k => absurd rfl k), fun _ => ⟨rfl, t, rfl, h2⟩⟩
theorem TellAt.srt {H : Hp} {p : Addr} {ws : List Str} (h : TellAt H p ws) (hg : gres ws = .ok) : TellAt H p (srt ws) := by
  unfold TellAt at h ⊢
  rw [gres_srt hg]
  rw [hg] at h
  rw [srt_idem]
  exact h
theorem perm_strs {ys : List V} {ws : List Str} (h : ys.Perm (ws.map V.str)) : ∃ zs : List Str, ys = zs.map V.str ∧ zs.Perm ws := by
  let g : V → Str := fun v => match v with
    | .str z => z
    | _ => ""
  refine ⟨ys.map g, ?_, ?_⟩
  · rw [List.map_map]
    refine (List.map_id ys).symm.trans (List.map_congr_left fun v hv => ?_)
    obtain ⟨z, _, rfl⟩ := List.mem_map.mp (h.mem_iff.mp hv)
    rfl
  · have := h.map g
    rw [List.map_map] at this
    rw [show ws.map (g ∘ V.str) = ws from (List.map_congr_left fun z _ => rfl).trans (List.map_id ws)] at this
    exact this
/-- texts of few signs, all below 128 -/
def Asc (m : Nat) (ws : List Str) : Prop := ∀ z ∈ ws, z.length ≤ m ∧ ∀ c ∈ z.cps.toList, c < 128
theorem Asc.ok {m : Nat} {ws : List Str} (h : Asc m ws) (hm : m ≤ 1000) : TxtOk ws := fun z hz => ⟨Nat.le_trans (h z hz).1 hm, fun c hc => by
  have := (h z hz).2 c hc
  omega⟩
theorem asc_upper {z : Str} (h : ∀ c ∈ z.cps.toList, c < 128) : (Txt.upper z).length = z.length ∧ ∀ c ∈ (Txt.upper z).cps.toList, c < 128 := by
  rw [PyProof.Rows.upper_ascii h]
  refine ⟨by simp [Str.length], fun c hc => ?_⟩
  simp only [Array.toList_map, List.mem_map] at hc
  obtain ⟨d, hd, rfl⟩ := hc
  have := h d hd
  unfold PyProof.Rows.up1
  split <;> omega
theorem tellD_good {ws : List Str} (h : TxtOk ws) : GoodD 2 (tellD ws) := by
  have hs : ∀ {s : Str} {r : List Str}, scan r ws = .nm s ∨ scan r ws = .tw s → s ∈ ws := fun {s r} => by
    induction ws generalizing r with
    | nil => rintro (h | h) <;> cases h
    | cons x l ih =>
      rw [scan]
      split
      · rintro (h | h) <;> cases h
        exact List.mem_cons_self
      · split
        · rintro (h | h) <;> cases h
          exact List.mem_cons_self
        · exact fun k => List.mem_cons_of_mem _ (ih (fun s hs => h s (List.mem_cons_of_mem _ hs)) k)
  have gs : ∀ {s : Str}, gres ws = .nm s ∨ gres ws = .tw s → SOk s := fun {s} k => by
    unfold gres at k
    split at k
    · rcases k with k | k <;> cases k
    · exact (h s (hs k)).2
  have lit : ∀ {z : Str}, (z.cps.toList.all fun c => decide (c < 0x110000)) = true → SOk z := fun {z} k c hc => by
    have := List.all_eq_true.mp k c hc
    exact of_decide_eq_true this
  have g : GoodD 2 (tellD ws) := by
    unfold tellD
    split
    · refine good_list (n := 1) fun d hd => ?_
      simp only [List.mem_cons, List.not_mem_nil, or_false] at hd
      rcases hd with rfl | rfl | rfl
      · exact good_str (lit (by decide +kernel))
      · exact good_int _
      · exact good_bool _
    · rename_i s hg
      refine good_list (n := 1) fun d hd => ?_
      simp only [List.mem_cons, List.not_mem_nil, or_false] at hd
      rcases hd with rfl | rfl | rfl
      · exact good_str (lit (by decide +kernel))
      · exact good_str (gs (.inl hg))
      · exact good_bool _
    · rename_i s hg
      refine good_list (n := 1) fun d hd => ?_
      simp only [List.mem_cons, List.not_mem_nil, or_false] at hd
      rcases hd with rfl | rfl | rfl
      · exact good_str (lit (by decide +kernel))
      · exact good_str (gs (.inr hg))
      · exact good_bool _
    · refine good_list (n := 1) fun d hd => ?_
      simp only [List.mem_cons, List.not_mem_nil, or_false] at hd
      rcases hd with rfl | rfl
      · exact good_str (lit (by decide +kernel))
      · exact good_strsT fun z hz => (srt_ok h z hz).2
  exact g
end Lw

namespace Lw
open PySem PySem.Spec PyProof.Rows L2
open PySem.W (dataLe dataLe_str)
/-! ### bundles by the places of their goods -/
def nextI (n : Nat) (L : List (List Nat)) : List (List Nat) := L.flatMap fun b => ((List.range n).filter fun g => b.isEmpty || decide (b.getLastD 0 < g)).map fun g => b ++ [g]
def layI (n : Nat) : Nat → List (List Nat)
  | 0 => [[]]
  | k + 1 => nextI n (layI n k)
def flatI (n k : Nat) : List (List Nat) := (List.range k).flatMap (layI n)
def allI (n : Nat) : List (List Nat) := flatI n (n + 1)
def fndI : Nat → List (List Nat)
  | 0 => [[]]
  | k + 1 => fndI k ++ (fndI k).map fun b => b ++ [k]
def upto {P : Nat → Bool} (n : Nat) (h : (List.range n).all P = true) (i : Nat) (hi : i < n) : P i = true := List.all_eq_true.mp h i (List.mem_range.mpr hi)
theorem lay_end (n : Nat) (hn : n < 6) : layI n 6 = [] := by
  have := upto (P := fun n => decide (layI n 6 = [])) 6 (by decide +kernel) n hn
  exact of_decide_eq_true this
theorem flat_all (n k : Nat) (hn : n < 6) (hk : k < 7) (h : layI n k = []) : flatI n k = allI n := by
  have := upto (P := fun n => (List.range 7).all fun k => decide (layI n k = [] → flatI n k = allI n)) 6 (by decide +kernel) n hn
  exact of_decide_eq_true (upto (P := fun k => decide (layI n k = [] → flatI n k = allI n)) 7 this k hk) h
theorem lay_in (n k : Nat) (hn : n < 6) (hk : k < 7) : ∀ b ∈ layI n k, b.length ≤ 5 ∧ ∀ i ∈ b, i < n := by
  have := upto (P := fun n => (List.range 7).all fun k => decide (∀ b ∈ layI n k, b.length ≤ 5 ∧ ∀ i ∈ b, i < n)) 6 (by decide +kernel) n hn
  exact of_decide_eq_true (upto (P := fun k => decide (∀ b ∈ layI n k, b.length ≤ 5 ∧ ∀ i ∈ b, i < n)) 7 this k hk)
theorem lay_len (n k : Nat) (hn : n < 6) (hk : k < 7) : (layI n k).length ≤ 32 ∧ (flatI n k).length ≤ 32 := by
  have := upto (P := fun n => (List.range 7).all fun k => decide ((layI n k).length ≤ 32 ∧ (flatI n k).length ≤ 32)) 6 (by decide +kernel) n hn
  exact of_decide_eq_true (upto (P := fun k => decide ((layI n k).length ≤ 32 ∧ (flatI n k).length ≤ 32)) 7 this k hk)
theorem all_in (n : Nat) (hn : n < 6) : ∀ b ∈ allI n, b.length ≤ 5 ∧ ∀ i ∈ b, i < n := by
  have := upto (P := fun n => decide (∀ b ∈ allI n, b.length ≤ 5 ∧ ∀ i ∈ b, i < n)) 6 (by decide +kernel) n hn
  exact of_decide_eq_true this
theorem all_nodup (n : Nat) (hn : n < 6) : (allI n).Nodup := by
  have := upto (P := fun n => decide (allI n).Nodup) 6 (by decide +kernel) n hn
  exact of_decide_eq_true this
theorem all_self (n : Nat) (hn : n < 6) : ∀ b ∈ allI n, ((List.range n).filter fun i => decide (i ∈ b)) = b := by
  have := upto (P := fun n => decide (∀ b ∈ allI n, ((List.range n).filter fun i => decide (i ∈ b)) = b)) 6 (by decide +kernel) n hn
  exact of_decide_eq_true this
theorem fnd_in (n : Nat) (hn : n < 6) : (fndI n).length ≤ 32 ∧ ∀ b ∈ fndI n, b.length ≤ 5 ∧ ∀ i ∈ b, i < n := by
  have := upto (P := fun n => decide ((fndI n).length ≤ 32 ∧ ∀ b ∈ fndI n, b.length ≤ 5 ∧ ∀ i ∈ b, i < n)) 6 (by decide +kernel) n hn
  exact of_decide_eq_true this
/-- the places of what was found, among all -/
theorem fnd_at (n : Nat) (hn : n < 6) : ((fndI n).map fun b => (allI n).idxOf b).isPerm (List.range (allI n).length) = true ∧ ∀ b ∈ fndI n, b ∈ allI n := by
  have := upto (P := fun n => ((fndI n).map fun b => (allI n).idxOf b).isPerm (List.range (allI n).length) && decide (∀ b ∈ fndI n, b ∈ allI n)) 6 (by decide +kernel) n hn
  rw [Bool.and_eq_true] at this
  exact ⟨this.1, of_decide_eq_true this.2⟩
/-- less, by length and then in order -/
def ltI (a b : List Nat) : Bool := decide (a.length < b.length) || (decide (a.length = b.length) && decide (a < b))
theorem fnd_le (n : Nat) (hn : n < 6) : ∀ a ∈ fndI n, ∀ b ∈ fndI n, (!ltI b a) = decide ((allI n).idxOf a ≤ (allI n).idxOf b) := by
  have := upto (P := fun n => decide (∀ a ∈ fndI n, ∀ b ∈ fndI n, (!ltI b a) = decide ((allI n).idxOf a ≤ (allI n).idxOf b))) 6 (by decide +kernel) n hn
  exact of_decide_eq_true this
/-! ### and by the goods themselves -/
def Inc (ws : List Str) : Prop := ws.Pairwise fun a b => a.cps.toList < b.cps.toList
def fI (ws : List Str) (i : Nat) : Str := ws.getD i ""
def bagI (ws : List Str) (b : List Nat) : List Str := b.map (fI ws)
theorem fI_at {ws : List Str} {i : Nat} {s : Str} (h : ws[i]? = some s) : fI ws i = s := by
  unfold fI
  rw [List.getD_eq_getElem?_getD, h]
  rfl
theorem ws_eq (ws : List Str) : ws = (List.range ws.length).map (fI ws) := by
  apply List.ext_getElem?
  intro i
  rw [List.getElem?_map]
  by_cases h : i < ws.length
  · rw [List.getElem?_range h, Option.map_some, List.getElem?_eq_getElem h, fI_at (List.getElem?_eq_getElem h)]
  · rw [List.getElem?_eq_none (by omega), List.getElem?_eq_none (by simp; omega)]
    rfl
theorem inc_lt {ws : List Str} (h : Inc ws) {i j : Nat} (hi : i < ws.length) (hj : j < ws.length) : (fI ws i).cps.toList < (fI ws j).cps.toList ↔ i < j := by
  have key : ∀ {i j : Nat} (hi : i < ws.length) (hj : j < ws.length), i < j → (fI ws i).cps.toList < (fI ws j).cps.toList := fun {i j} hi hj hij => by
    rw [fI_at (List.getElem?_eq_getElem hi), fI_at (List.getElem?_eq_getElem hj)]
    exact List.pairwise_iff_getElem.mp h i j hi hj hij
  constructor
  · intro hl
    rcases Nat.lt_trichotomy i j with h1 | h1 | h1
    · exact h1
    · subst h1
      exact absurd hl (List.lt_irrefl _)
    · exact absurd (List.lt_trans hl (key hj hi h1)) (List.lt_irrefl _)
  · exact key hi hj
theorem inc_inj {ws : List Str} (h : Inc ws) {i j : Nat} (hi : i < ws.length) (hj : j < ws.length) (e : fI ws i = fI ws j) : i = j := by
  rcases Nat.lt_trichotomy i j with h1 | h1 | h1
  · exact absurd (e ▸ (inc_lt h hi hj).mpr h1) (List.lt_irrefl _)
  · exact h1
  · exact absurd (e ▸ (inc_lt h hj hi).mpr h1) (List.lt_irrefl _)
theorem bag_inj {ws : List Str} (h : Inc ws) : ∀ {a b : List Nat}, (∀ i ∈ a, i < ws.length) → (∀ i ∈ b, i < ws.length) → bagI ws a = bagI ws b → a = b
  | [], [], _, _, _ => rfl
  | [], _ :: _, _, _, e => by cases e
  | _ :: _, [], _, _, e => by cases e
  | x :: a, y :: b, ha, hb, e => by
    have e' : fI ws x = fI ws y ∧ bagI ws a = bagI ws b := List.cons.inj e
    rw [inc_inj h (ha x List.mem_cons_self) (hb y List.mem_cons_self) e'.1, bag_inj h (fun i hi => ha i (List.mem_cons_of_mem _ hi)) (fun i hi => hb i (List.mem_cons_of_mem _ hi)) e'.2]
theorem srt_inc {ws : List Str} (h : ws.Nodup) : Inc (srt ws) := by
  have h1 := srt_sorted ws
  have h2 : (srt ws).Pairwise (· ≠ ·) := (srt_perm ws).nodup_iff.mpr h
  refine (h1.and h2).imp fun {a b} k => ?_
  have k1 := of_decide_eq_true k.1
  exact Classical.byContradiction fun z => k.2 (str_ext (List.le_antisymm k1 (List.not_lt.mp z)))
end Lw

namespace Lw
open PySem PySem.Spec PyProof.Rows L2
/-! ### lists of tuples of texts -/
def BagAt (H : Hp) (v : V) (b : List Str) : Prop := ∃ a, v = .ref a ∧ H a = some (.tup (b.map V.str))
def Bags (H : Hp) : List V → List (List Str) → Prop
  | [], [] => True
  | v :: vs, b :: bs => BagAt H v b ∧ Bags H vs bs
  | _, _ => False
theorem BagAt.ex {H H' : Hp} {v : V} {b : List Str} (e : Evl.Ex H H') (h : BagAt H v b) : BagAt H' v b := by
  obtain ⟨a, h1, h2⟩ := h
  exact ⟨a, h1, e _ _ h2⟩
theorem BagAt.put {H : Hp} {v : V} {b : List Str} {p : Addr} {xs : List V} {o : HO} (hp : H p = some (.lst xs)) (h : BagAt H v b) : BagAt (upd H p o) v b := by
  obtain ⟨a, h1, h2⟩ := h
  refine ⟨a, h1, (upd_ne fun z => ?_).trans h2⟩
  rw [z, hp] at h2
  cases h2
theorem Bags.imp {H H' : Hp} (k : ∀ v b, BagAt H v b → BagAt H' v b) : ∀ {vs : List V} {bs : List (List Str)}, Bags H vs bs → Bags H' vs bs
  | [], [], _ => trivial
  | _ :: _, _ :: _, h => ⟨k _ _ h.1, Bags.imp k h.2⟩
  | [], _ :: _, h => h.elim
  | _ :: _, [], h => h.elim
theorem Bags.ex {H H' : Hp} {vs : List V} {bs : List (List Str)} (e : Evl.Ex H H') (h : Bags H vs bs) : Bags H' vs bs := h.imp fun _ _ k => k.ex e
theorem Bags.put {H : Hp} {vs : List V} {bs : List (List Str)} {p : Addr} {xs : List V} {o : HO} (hp : H p = some (.lst xs)) (h : Bags H vs bs) : Bags (upd H p o) vs bs := h.imp fun _ _ k => k.put hp
theorem Bags.append {H : Hp} : ∀ {vs ws : List V} {bs cs : List (List Str)}, Bags H vs bs → Bags H ws cs → Bags H (vs ++ ws) (bs ++ cs)
  | [], _, [], _, _, h => h
  | _ :: _, _, _ :: _, _, h, k => ⟨h.1, Bags.append h.2 k⟩
  | [], _, _ :: _, _, h, _ => h.elim
  | _ :: _, _, [], _, h, _ => h.elim
theorem Bags.len {H : Hp} : ∀ {vs : List V} {bs : List (List Str)}, Bags H vs bs → vs.length = bs.length
  | [], [], _ => rfl
  | _ :: _, _ :: _, h => by rw [List.length_cons, List.length_cons, Bags.len h.2]
  | [], _ :: _, h => h.elim
  | _ :: _, [], h => h.elim
theorem Bags.at {H : Hp} : ∀ {vs : List V} {bs : List (List Str)} {i : Nat} {v : V}, Bags H vs bs → vs[i]? = some v → ∃ b, bs[i]? = some b ∧ BagAt H v b
  | [], [], _, _, _, h => by cases h
  | _ :: _, b :: _, 0, _, h, e => by
    cases e
    exact ⟨b, rfl, h.1⟩
  | _ :: _, _ :: _, i + 1, _, h, e => Bags.at (i := i) h.2 (by simpa using e)
  | [], _ :: _, _, _, h, _ => h.elim
  | _ :: _, [], _, _, h, _ => h.elim
def bagsD (bs : List (List Str)) : PyData := .list (bs.map fun b => .tuple (b.map PyData.str))
theorem Bags.dp {K : PySem.W.Frag} {H : Hp} {p : Addr} {vs : List V} {bs : List (List Str)} (hp : SqL K H p vs) (h : Bags H vs bs) : Dp K H (.ref p) (bagsD bs) := by
  refine .lst hp ?_
  clear hp
  induction vs generalizing bs with
  | nil =>
    cases bs with
    | nil => exact .nil
    | cons _ _ => exact h.elim
  | cons v vs ih =>
    cases bs with
    | nil => exact h.elim
    | cons b bs =>
      obtain ⟨a, rfl, ha⟩ := h.1
      exact .cons (dp_strsT (Evl.st_of ha)) (ih h.2)
theorem bagsD_good {bs : List (List Str)} (h : ∀ b ∈ bs, ∀ z ∈ b, SOk z) : GoodD 2 (bagsD bs) := good_list fun d hd => by
  obtain ⟨b, hb, rfl⟩ := List.mem_map.mp hd
  exact good_strsT (h b hb)
/-! ### [elt for x in list for y in tuple if test]: what comes is told by dat -/
section
open Evl
variable {K : PySem.W.Frag} {σ : L2.St} {H1 : Hp} {tt1 : TT} {te : TE} {tl tr : TE}
theorem lc2_bags {a b : Addr} {xs ys : List V} {jx jy : Nat} {vs vs1 : List Nat} (t : Nat → Nat → Bool) (d : Nat → Nat → List Str) (dat : Nat → Nat → List (List Str))
    (h : Ev tl σ H1 (.ref a)) (hx : SqL K H1 a xs) (hy : SqT K H1 b ys) (h00 : dat 0 0 = []) (hsx : ∀ i j, dat i (j + 1) = dat i j ++ if t i j = true then [d i j] else []) (hnx : ∀ i, i < xs.length → dat (i + 1) 0 = dat i ys.length) (hsm : ∀ i j, i ≤ xs.length → j ≤ ys.length → (dat i j).length ≤ 50000)
    (hw : ∀ x, wipe ((wipe σ vs).set jx (some x)) vs = wipe σ vs) (hw1 : ∀ x y, wipe ((wipe ((wipe σ vs).set jx (some x)) vs1).set jy (some y)) vs1 = wipe ((wipe σ vs).set jx (some x)) vs1)
    (hr : ∀ x H', Ex H1 H' → Ev tr ((wipe σ vs).set jx (some x)) H' (.ref b))
    (hT : ∀ i j x y H', xs[i]? = some x → ys[j]? = some y → Ex H1 H' → EvT tt1 ((wipe ((wipe σ vs).set jx (some x)) vs1).set jy (some y)) H' (t i j))
    (hE : ∀ i j x y H', xs[i]? = some x → ys[j]? = some y → Ex H1 H' → t i j = true → ∀ Q : VK, (∀ v H2, Ex H' H2 → BagAt H2 v (d i j) → Q v H2) → te ((wipe ((wipe σ vs).set jx (some x)) vs1).set jy (some y)) H' Q)
    {Q : VK} (k : ∀ p acc H', H1 p = none → Ex H1 H' → H' p = some (.lst acc) → Bags H' acc (dat xs.length 0) → Q (.ref p) H') :
    tLc2 (iList K tl) (gName jx) tYes (iTup K tr) (gName jy) tt1 te vs vs1 σ H1 Q := by
  refine h H1 (Ex.refl _) _ fun H2 e2 => ⟨a, rfl, ⟨xs, ex_l e2 hx⟩, fun D nD => ?_⟩
  have nD1 : H1 D = none := fresh_back e2 nD
  -- the word of the outer loop
  let Pv : Nat → Nat → Hp → Prop := fun i j H' => Ex H1 H' ∧ ∃ acc, H' D = some (.lst acc) ∧ Bags H' acc (dat i j)
  refine ⟨fun i m H' => m = xs.length - i ∧ i ≤ xs.length ∧ Pv i 0 H', ⟨xs.length, by simp, Nat.zero_le _, e2.trans (Ex.new nD), [], upd_same, by rw [h00]; trivial⟩, ?_⟩
  rintro i m H' ⟨rfl, hi, e', acc, hD, hB⟩
  by_cases hlt : i < xs.length
  · refine .inr ⟨⟨xs, xs[i], ex_l e' hx, by simp [hlt]⟩, Pv (i + 1) 0, fun H3 p => ⟨xs.length - (i + 1), by omega, rfl, hlt, p⟩, fun x H3 y => ?_⟩
    obtain ⟨rfl, hy2⟩ := y
    have hxi : xs[i]? = some x := hy2 xs (ex_l e' hx)
    refine ⟨hw x, ?_⟩
    unfold tYes
    simp only [if_true]
    refine hr x H3 e' H3 (Ex.refl _) _ fun H4 e4 => ⟨b, rfl, ⟨ys, ex_t (e'.trans e4) hy⟩, ?_⟩
    refine ⟨fun j m H' => m = ys.length - j ∧ j ≤ ys.length ∧ Pv i j H', ⟨ys.length, by simp, Nat.zero_le _, e'.trans e4, acc, e4 _ _ hD, hB.ex e4⟩, ?_⟩
    rintro j m H5 ⟨rfl, hj, e5, acc5, hD5, hB5⟩
    by_cases hjt : j < ys.length
    · refine .inr ⟨⟨ys, ys[j], ex_t e5 hy, by simp [hjt]⟩, Pv i (j + 1), fun H6 p => ⟨ys.length - (j + 1), by omega, rfl, hjt, p⟩, fun y H6 z => ?_⟩
      obtain ⟨rfl, hz2⟩ := z
      have hyj : ys[j]? = some y := hz2 ys (ex_t e5 hy)
      refine ⟨hw1 x y, ?_⟩
      refine hT i j x y H6 hxi hyj e5 H6 (Ex.refl _) _ fun H7 e7 => ?_
      cases ht : t i j with
      | true =>
        rw [if_pos rfl]
        refine hE i j x y H7 hxi hyj (e5.trans e7) ht _ fun v H8 e8 hv => ?_
        have hD8 := (e7.trans e8) _ _ hD5
        have hB8 := hB5.ex (e7.trans e8)
        refine ⟨acc5, hD8, sz_lt (by rw [hB5.len]; have := hsm i j hi hj; omega), (((e5.trans e7).trans e8)).mut nD1, _, upd_same, ?_⟩
        rw [hsx, ht, if_pos rfl]
        exact (Bags.append (ws := [v]) (cs := [d i j]) hB8 ⟨hv, trivial⟩).put hD8
      | false =>
        rw [if_neg (by simp)]
        refine ⟨e5.trans e7, acc5, e7 _ _ hD5, ?_⟩
        rw [hsx, ht, if_neg (by simp), List.append_nil]
        exact hB5.ex e7
    · have ej : j = ys.length := by omega
      subst ej
      refine .inl ⟨⟨ys, ex_t e5 hy, Nat.le_refl _⟩, e5, acc5, hD5, ?_⟩
      rw [hnx i hlt]
      exact hB5
  · have ei : i = xs.length := by omega
    subst ei
    exact .inl ⟨⟨xs, ex_l e' hx, Nat.le_refl _⟩, k D acc H' nD1 e' hD hB⟩
end
end Lw

namespace Lw
open PySem PySem.Spec PyProof.Rows L2
/-! ### rules whose written part is told, for blocks -/
section
variable {X : Cx}
theorem k_catA (K : PySem.W.Frag) (h : X.K = K := by rfl) : OpR X (binaryOp .Add) (rCatA K) := h ▸ op_catA
theorem k_ixT (K : PySem.W.Frag) (h : X.K = K := by rfl) : IxR X (rIxT K) := h ▸ ix_tup
theorem k_ixL (K : PySem.W.Frag) (h : X.K = K := by rfl) : IxR X (rIxL K) := h ▸ ix_list
theorem k_len (K : PySem.W.Frag) (h : X.K = K := by rfl) : CallR X (.builtin "len") (fun xs H Q => ∃ p ys, xs = [.ref p] ∧ (SqL K H p ys ∨ SqT K H p ys) ∧ Q (.int ys.length) H) := h ▸ call_len_seq
theorem k_listof (K : PySem.W.Frag) (h : X.K = K := by rfl) : CallR X (.type "list") (fun xs H Q => ∃ p ys, xs = [.ref p] ∧ (SqL K H p ys ∨ SqT K H p ys) ∧ ∀ l, H l = none → Q (.ref l) (upd H l (.lst ys))) := h ▸ call_list_of
theorem k_piT {tg l : Expr} {tl : TE} (K : PySem.W.Frag) (hl : PE X l tl) (h : X.K = K := by rfl) : PI X tg l (iTup K tl) := h ▸ pi_tup hl
theorem k_piL {tg l : Expr} {tl : TE} (K : PySem.W.Frag) (hl : PE X l tl) (h : X.K = K := by rfl) : PI X tg l (iList K tl) := h ▸ pi_list hl
theorem k_truth {a : Expr} {ta : TE} (K : PySem.W.Frag) (ha : PE X a ta) (he : ∀ whole, isTrue a X.env whole = (do let v ← whole; standAt a.pos; holding [v] (truthy v))) (h : X.K = K := by rfl) :
    PT X a (fun σ H Q => ta σ H fun x H' => ∃ k, TruV K x H' k ∧ Q k H') := h ▸ pt_truth ha he
end
/-! ### in, over data of a list or a tuple -/
def rInDS (K : PySem.W.Frag) (neg : Bool) : R2 := fun x y H Q => ∃ d ds, Dp K H x d ∧ (Dp K H y (.list ds) ∨ Dp K H y (.tuple ds)) ∧ SeqAt.shaped d = true ∧ SeqAt.shaped (.list ds) = true ∧ Q (.bl (if neg = true then !(ds.any fun z => PyData.eqv z d) else ds.any fun z => PyData.eqv z d)) H
theorem k_inD {X : Cx} (K : PySem.W.Frag) (hu : X.A.units + 65 < cLine) (h : X.K = K := by rfl) : OpR X (compareOp .In) (rInDS K false) := by
  subst h
  intro pins s σ H x y v u Q I rx ry h
  obtain ⟨d, ds, hd, he, sd, se, q⟩ := h
  obtain ⟨as, r1⟩ := Dp.reads I d x v hd rx
  have s1 := SeqAt.canLay_of_shaped se
  rcases he with he | he
  · obtain ⟨bs, r2⟩ := Dp.reads I (.list ds) y u he ry
    exact SeqAt.in_list_reads r2 r1 s1 (SeqAt.canLay_of_shaped sd) (room_in_shaped sd hu) ⟨.bl _, H, I, rfl, q⟩
  · obtain ⟨bs, r2⟩ := Dp.reads I (.tuple ds) y u he ry
    exact SeqAt.in_tuple_reads r2 r1 s1 (SeqAt.canLay_of_shaped sd) (room_in_shaped sd hu) ⟨.bl _, H, I, rfl, q⟩
theorem room65 {k : Nat} {A : Around} (r : Room k A) : A.units + 65 < cLine := by
  have := r.un
  omega
/-! ### the rows of the next layer -/
def okI (b : List Nat) (j : Nat) : Bool := b.isEmpty || decide (b.getLastD 0 < j)
def rowI (j : Nat) (b : List Nat) : List (List Nat) := ((List.range j).filter (okI b)).map fun g => b ++ [g]
def datI (n : Nat) (L : List (List Nat)) (i j : Nat) : List (List Nat) := (L.take i).flatMap (rowI n) ++ rowI j (L.getD i [])
theorem row_succ (j : Nat) (b : List Nat) : rowI (j + 1) b = rowI j b ++ if okI b j = true then [b ++ [j]] else [] := by
  unfold rowI
  rw [List.range_succ, List.filter_append, List.map_append]
  congr 1
  by_cases h : okI b j = true
  · rw [if_pos h, List.filter_cons_of_pos h]
    rfl
  · rw [if_neg h, List.filter_cons_of_neg h]
    rfl
theorem dat_succ (n : Nat) (L : List (List Nat)) (i j : Nat) : datI n L i (j + 1) = datI n L i j ++ if okI (L.getD i []) j = true then [L.getD i [] ++ [j]] else [] := by
  unfold datI
  rw [row_succ, List.append_assoc]
theorem dat_next (n : Nat) (L : List (List Nat)) (i : Nat) (hi : i < L.length) : datI n L (i + 1) 0 = datI n L i n := by
  unfold datI
  rw [List.take_add_one, List.getElem?_eq_getElem hi, List.flatMap_append, List.getD_eq_getElem?_getD (l := L) (i := i), List.getElem?_eq_getElem hi]
  simp [rowI]
theorem dat_end (n : Nat) (L : List (List Nat)) : datI n L L.length 0 = nextI n L := by
  unfold datI nextI
  rw [List.take_length]
  have : rowI 0 (L.getD L.length []) = [] := rfl
  rw [this, List.append_nil]
  rfl
theorem row_len (j : Nat) (b : List Nat) : (rowI j b).length ≤ j := by
  unfold rowI
  rw [List.length_map]
  exact Nat.le_trans (List.length_filter_le _ _) (by rw [List.length_range]; exact Nat.le_refl _)
theorem flat_len {α β : Type} (f : α → List β) (c : Nat) : ∀ l : List α, (∀ b ∈ l, (f b).length ≤ c) → (l.flatMap f).length ≤ c * l.length
  | [], _ => by simp
  | x :: l, h => by
    rw [List.flatMap_cons, List.length_append, List.length_cons, Nat.mul_succ]
    have h1 := h x List.mem_cons_self
    have h2 := flat_len f c l fun b hb => h b (List.mem_cons_of_mem _ hb)
    omega
theorem dat_len (n : Nat) (L : List (List Nat)) (i j : Nat) : (datI n L i j).length ≤ n * L.length + j := by
  unfold datI
  rw [List.length_append]
  have h1 := flat_len (rowI n) n (L.take i) fun b _ => row_len n b
  have h2 := row_len j (L.getD i [])
  have h3 : n * (L.take i).length ≤ n * L.length := Nat.mul_le_mul_left n (by rw [List.length_take]; omega)
  omega
theorem at_last {ws : List Str} {b : List Nat} (h : b ≠ []) : atI ((bagI ws b).map V.str) (-1) = some (.str (fI ws (b.getLastD 0))) := by
  have hl : 0 < b.length := List.length_pos_iff.mpr h
  unfold atI ixN
  have n1 : ¬ (0 : Int) ≤ -1 := by omega
  have n2 : -(((bagI ws b).map V.str).length : Int) ≤ -1 := by
    unfold bagI
    simp only [List.length_map]
    omega
  rw [if_neg n1, if_pos n2]
  have e : ((-1 : Int) + (((bagI ws b).map V.str).length : Int)).toNat = b.length - 1 := by
    unfold bagI
    simp only [List.length_map]
    omega
  rw [e]
  show ((bagI ws b).map V.str)[b.length - 1]? = _
  unfold bagI
  rw [List.getElem?_map, List.getElem?_map, List.getElem?_eq_getElem (by omega : b.length - 1 < b.length)]
  simp only [Option.map_some]
  congr 3
  rw [List.getLastD_eq_getLast?, List.getLast?_eq_getElem?, List.getElem?_eq_getElem (by omega : b.length - 1 < b.length)]
  rfl
end Lw

namespace Lw
open PySem PySem.Spec PyProof.Rows L2
open PySem.W (dataLe dataLe_str rowLt dataLt dataLt_tuple dataLt_cons dataLt_int dataLt_str alike alikeAll)
/-! ### items of a list, each told by a relation -/
def Rels {α : Type} (R : Hp → V → α → Prop) (H : Hp) : List V → List α → Prop
  | [], [] => True
  | v :: vs, b :: bs => R H v b ∧ Rels R H vs bs
  | _, _ => False
section
variable {α : Type} {R S : Hp → V → α → Prop}
theorem Rels.imp {H H' : Hp} (k : ∀ v b, R H v b → S H' v b) : ∀ {vs : List V} {bs : List α}, Rels R H vs bs → Rels S H' vs bs
  | [], [], _ => trivial
  | _ :: _, _ :: _, h => ⟨k _ _ h.1, Rels.imp k h.2⟩
  | [], _ :: _, h => h.elim
  | _ :: _, [], h => h.elim
theorem Rels.append {H : Hp} : ∀ {vs ws : List V} {bs cs : List α}, Rels R H vs bs → Rels R H ws cs → Rels R H (vs ++ ws) (bs ++ cs)
  | [], _, [], _, _, h => h
  | _ :: _, _, _ :: _, _, h, k => ⟨h.1, Rels.append h.2 k⟩
  | [], _, _ :: _, _, h, _ => h.elim
  | _ :: _, _, [], _, h, _ => h.elim
theorem Rels.len {H : Hp} : ∀ {vs : List V} {bs : List α}, Rels R H vs bs → vs.length = bs.length
  | [], [], _ => rfl
  | _ :: _, _ :: _, h => by rw [List.length_cons, List.length_cons, Rels.len h.2]
  | [], _ :: _, h => h.elim
  | _ :: _, [], h => h.elim
theorem Rels.at {H : Hp} : ∀ {vs : List V} {bs : List α} {i : Nat} {v : V}, Rels R H vs bs → vs[i]? = some v → ∃ b, bs[i]? = some b ∧ R H v b
  | [], [], _, _, _, h => by cases h
  | _ :: _, b :: _, 0, _, h, e => by
    cases e
    exact ⟨b, rfl, h.1⟩
  | _ :: _, _ :: _, i + 1, _, h, e => Rels.at (i := i) h.2 (by simpa using e)
  | [], _ :: _, _, _, h, _ => h.elim
  | _ :: _, [], _, _, h, _ => h.elim
theorem Rels.map {β : Type} {g : β → α} {T : Hp → V → β → Prop} {H : Hp} (k : ∀ v b, T H v b ↔ R H v (g b)) : ∀ {vs : List V} {bs : List β}, Rels T H vs bs ↔ Rels R H vs (bs.map g)
  | [], [] => Iff.rfl
  | _ :: _, _ :: _ => and_congr (k _ _) (Rels.map k)
  | [], _ :: _ => Iff.rfl
  | _ :: _, [] => Iff.rfl
theorem Rels.zip_mem {H : Hp} : ∀ {vs : List V} {bs : List α}, Rels R H vs bs → ∀ q ∈ vs.zip bs, R H q.1 q.2
  | [], _, _, q, h => by simp at h
  | _ :: _, [], _, q, h => by simp at h
  | v :: vs, b :: bs, k, q, h => by
    rw [List.zip_cons_cons] at h
    rcases List.mem_cons.mp h with rfl | h
    · exact k.1
    · exact Rels.zip_mem k.2 q h
theorem bags_rels {H : Hp} : ∀ {vs : List V} {bs : List (List Str)}, Bags H vs bs ↔ Rels BagAt H vs bs
  | [], [] => Iff.rfl
  | _ :: _, _ :: _ => and_congr Iff.rfl bags_rels
  | [], _ :: _ => Iff.rfl
  | _ :: _, [] => Iff.rfl
end
section
open Evl
variable {K : PySem.W.Frag} {σ : L2.St} {H1 : Hp} {te : TE}
/-- [elt for x in a list], each item told -/
theorem lc1_rels {α : Type} {R : Hp → V → α → Prop} (Rex : ∀ {H H' : Hp} {v : V} {b : α}, Ex H H' → R H v b → R H' v b) (Rput : ∀ {H : Hp} {p : Addr} {xs : List V} {o : HO} {v : V} {b : α}, H p = some (.lst xs) → R H v b → R (upd H p o) v b)
    {a : Addr} {xs : List V} {j : Nat} {vs : List Nat} (ds : List α) (hx : SqL K H1 a xs) (hl : ds.length = xs.length) (hz : xs.length ≤ 50000) (hw : ∀ x, wipe ((wipe σ vs).set j (some x)) vs = wipe σ vs)
    (hE : ∀ (i : Nat) (x : V) (d : α) (H' : Hp), xs[i]? = some x → ds[i]? = some d → Ex H1 H' → ∀ Q : VK, (∀ v H2, Ex H' H2 → R H2 v d → Q v H2) → te ((wipe σ vs).set j (some x)) H' Q)
    {Qd : Addr → Hp → Prop} (k : ∀ p acc H', H1 p = none → Ex H1 H' → H' p = some (.lst acc) → Rels R H' acc ds → Qd p H') :
    ∀ D, H1 D = none → ∃ W : Nat → Nat → Hp → Prop, (∃ m, W 0 m (upd H1 D (.lst []))) ∧ ∀ i m H, W i m H →
      ((Itl K a).stop i H ∧ Qd D H) ∨ ((Itl K a).go i H ∧ ∃ Nx : Hp → Prop, (∀ H', Nx H' → ∃ m', m' < m ∧ W (i + 1) m' H') ∧ ∀ x H', (Itl K a).yld i H x H' → gName j x (wipe σ vs) H' fun σ2 H2 => wipe σ2 vs = wipe σ vs ∧ tYes σ2 H2 fun b H3 =>
        if b = true then te σ2 H3 fun y H4 => ∃ acc, H4 D = some (.lst acc) ∧ acc.length < sizeLine ∧ Nx (upd H4 D (.lst (acc ++ [y]))) else Nx H3) := fun D nD => by
  refine lc_it (walk_list (xs := xs)) (fun i H' => Ex H1 H' ∧ ∃ acc, H' D = some (.lst acc) ∧ Rels R H' acc (ds.take i)) ⟨Ex.new nD, [], upd_same, trivial⟩ (fun i H' _ p => ex_l p.1 hx) (fun i x H' H2 hi ⟨e, acc, hD, hB⟩ y => ?_) (fun H' ⟨e, acc, hD, hB⟩ => ?_)
  · obtain ⟨rfl, hxi⟩ := y
    refine ⟨hw x, ?_⟩
    unfold tYes
    simp only [if_true]
    obtain ⟨d, hd⟩ : ∃ d, ds[i]? = some d := ⟨_, List.getElem?_eq_getElem (by omega : i < ds.length)⟩
    refine hE i x d H2 hxi hd e _ fun v H3 e3 hv => ?_
    have hD3 := e3 _ _ hD
    refine ⟨acc, hD3, sz_lt (by rw [hB.len, List.length_take]; omega), (e.trans e3).mut nD, _, upd_same, ?_⟩
    rw [List.take_add_one, hd]
    exact (Rels.append (ws := [v]) (cs := [d]) (hB.imp fun _ _ h => Rex e3 h) ⟨hv, trivial⟩).imp fun _ _ h => Rput hD3 h
  · rw [← hl, List.take_length] at hB
    exact k D acc H' nD e hD hB
end
section
open Evl
theorem eu_tupof {K : PySem.W.Frag} {σ : L2.St} {H : Hp} {xs : List V} {tl : TE} (h : EvL tl σ H xs) : EvU (tCB (fun xs H Q => ∃ p ys, xs = [.ref p] ∧ ((SqL K H p ys ∧ ∀ l, H l = none → Q (.ref l) (upd H l (.tup ys))) ∨ (SqT K H p ys ∧ Q (.ref p) H))) (tCons tl tNil)) σ H xs := fun H1 e Q q =>
  h H1 e _ fun p H2 np e2 hp => ⟨p, xs, rfl, .inl ⟨sq_of hp, fun l nl => q l _ (fresh_back e2 nl) (e2.trans (Ex.new nl)) upd_same⟩⟩
theorem el_listof {K : PySem.W.Frag} {σ : L2.St} {H : Hp} {a : Addr} {xs : List V} {te : TE} (h : Ev te σ H (.ref a)) (hx : SqL K H a xs ∨ SqT K H a xs) : EvL (tCB (fun xs H Q => ∃ p ys, xs = [.ref p] ∧ (SqL K H p ys ∨ SqT K H p ys) ∧ ∀ l, H l = none → Q (.ref l) (upd H l (.lst ys))) (tCons te tNil)) σ H xs := fun H1 e Q q =>
  h H1 e _ fun H2 e2 => ⟨a, xs, rfl, hx.elim (fun h => .inl (ex_l (e.trans e2) h)) (fun h => .inr (ex_t (e.trans e2) h)), fun l nl => q l _ (fresh_back e2 nl) (e2.trans (Ex.new nl)) upd_same⟩
end
/-! ### the order of bundles -/
theorem alike_strs : ∀ xs ys : List Str, alikeAll (xs.map PyData.str) (ys.map PyData.str) = true
  | [], _ => rfl
  | _ :: _, [] => rfl
  | _ :: xs, _ :: ys => by
    rw [List.map_cons, List.map_cons, alikeAll, alike_strs xs ys]
    rfl
theorem row_nil : rowLt [] [] = false := by
  unfold rowLt
  decide +kernel
theorem row_bag {ws : List Str} (hI : Inc ws) : ∀ {a b : List Nat}, (∀ i ∈ a, i < ws.length) → (∀ i ∈ b, i < ws.length) → rowLt ((bagI ws a).map PyData.str) ((bagI ws b).map PyData.str) = decide (a < b)
  | [], [], _, _ => by
    rw [show rowLt ((bagI ws []).map PyData.str) ((bagI ws []).map PyData.str) = false from row_nil]
    simp
  | [], y :: b, _, _ => by
    have e : rowLt [] (PyData.str (fI ws y) :: (bagI ws b).map PyData.str) = true := by
      unfold rowLt
      rw [PySem.W.toks_all_cons]
      simp only [PySem.W.keyToksAll]
      rw [lex_diff (O := itemOrd) (by simp)]
      rfl
    simpa [bagI] using e
  | x :: a, [], _, _ => by
    have e : rowLt (PyData.str (fI ws x) :: (bagI ws a).map PyData.str) [] = false := by
      unfold rowLt
      rw [PySem.W.toks_all_cons]
      simp only [PySem.W.keyToksAll]
      rw [lex_diff (O := itemOrd) (by simp)]
      rfl
    simpa [bagI] using e
  | x :: a, y :: b, ha, hb => by
    have e : rowLt ((bagI ws (x :: a)).map PyData.str) ((bagI ws (y :: b)).map PyData.str) = if fI ws x = fI ws y then rowLt ((bagI ws a).map PyData.str) ((bagI ws b).map PyData.str) else decide ((fI ws x).cps.toList < (fI ws y).cps.toList) := by
      show rowLt (.str (fI ws x) :: (bagI ws a).map PyData.str) (.str (fI ws y) :: (bagI ws b).map PyData.str) = _
      unfold rowLt
      rw [dataLt_cons (by simp [alike]), dataLt_str]
      simp only [PyData.eqv, beq_iff_eq]
    have hx := ha x List.mem_cons_self
    have hy := hb y List.mem_cons_self
    rw [e]
    by_cases h : x = y
    · rw [if_pos (by rw [h]), row_bag hI (fun i hi => ha i (List.mem_cons_of_mem _ hi)) (fun i hi => hb i (List.mem_cons_of_mem _ hi))]
      simp [h, List.cons_lt_cons_iff]
    · rw [if_neg fun z => h (inc_inj hI hx hy z)]
      simp only [inc_lt hI hx hy]
      simp [h, List.cons_lt_cons_iff]
/-- a pair of a length and a bundle -/
def PairAt (ws : List Str) (H : Hp) (v : V) (b : List Nat) : Prop := ∃ t ax, v = .ref t ∧ H t = some (.tup [.int (b.length : Int), .ref ax]) ∧ H ax = some (.tup ((bagI ws b).map V.str))
theorem PairAt.ex {ws : List Str} {H H' : Hp} {v : V} {b : List Nat} (e : Evl.Ex H H') (h : PairAt ws H v b) : PairAt ws H' v b := by
  obtain ⟨t, ax, h1, h2, h3⟩ := h
  exact ⟨t, ax, h1, e _ _ h2, e _ _ h3⟩
theorem PairAt.put {ws : List Str} {H : Hp} {v : V} {b : List Nat} {p : Addr} {xs : List V} {o : HO} (hp : H p = some (.lst xs)) (h : PairAt ws H v b) : PairAt ws (upd H p o) v b := by
  obtain ⟨t, ax, h1, h2, h3⟩ := h
  refine ⟨t, ax, h1, (upd_ne fun z => ?_).trans h2, (upd_ne fun z => ?_).trans h3⟩
  · rw [z, hp] at h2
    cases h2
  · rw [z, hp] at h3
    cases h3
/-! ### sorted pairs of a length and a bundle -/
def pairD (ws : List Str) (b : List Nat) : PyData := .tuple [.int (b.length : Int), .tuple ((bagI ws b).map PyData.str)]
theorem lt_pair {ws : List Str} (hI : Inc ws) {a b : List Nat} (ha : ∀ i ∈ a, i < ws.length) (hb : ∀ i ∈ b, i < ws.length) : dataLt (pairD ws a) (pairD ws b) = ltI a b := by
  unfold pairD
  rw [dataLt_tuple, dataLt_cons (by simp [alike]), dataLt_int, dataLt_cons (by simpa [alike] using alike_strs _ _)]
  have h1 : dataLt (.tuple ((bagI ws a).map PyData.str)) (.tuple ((bagI ws b).map PyData.str)) = decide (a < b) := by
    rw [dataLt_tuple]
    exact row_bag hI ha hb
  rw [h1, eqv_strsT]
  unfold ltI
  by_cases hl : a.length = b.length
  · have : PyData.eqv (.int (a.length : Int)) (.int (b.length : Int)) = true := by simp [PyData.eqv, hl]
    rw [if_pos this]
    by_cases hab : bagI ws a = bagI ws b
    · rw [if_pos (by rw [hab]; exact decide_eq_true rfl)]
      have e := bag_inj hI ha hb hab
      subst e
      rw [show PyProof.Rows.lexLt itemOrd (PySem.W.keyToksAll []) (PySem.W.keyToksAll []) = false from row_nil]
      simp
    · rw [if_neg (by rw [decide_eq_false hab]; simp)]
      simp [hl]
  · have : PyData.eqv (.int (a.length : Int)) (.int (b.length : Int)) = false := by
      simp only [PyData.eqv]
      exact beq_false_of_ne (by omega)
    rw [if_neg (by rw [this]; simp)]
    simp [hl]
theorem sort_pairs {ws : List Str} (hI : Inc ws) (hn : ws.length < 6) {γ : Type} (l : List (γ × List Nat)) (hl : l.map (·.2) = fndI ws.length) : (l.mergeSort (dataLe false fun q => pairD ws q.2)).map (·.2) = allI ws.length := by
  have hmem : ∀ q ∈ l, q.2 ∈ fndI ws.length := fun q hq => by
    rw [← hl]
    exact List.mem_map_of_mem hq
  have hin := (fnd_in ws.length hn).2
  obtain ⟨hp, hall⟩ := fnd_at ws.length hn
  have key : (l.mergeSort (dataLe false fun q => pairD ws q.2)).map (fun q => (allI ws.length).idxOf q.2) = (l.map fun q => (allI ws.length).idxOf q.2).mergeSort fun a b => decide (a ≤ b) := List.map_mergeSort fun a ha b hb => by
    show (!dataLt (pairD ws b.2) (pairD ws a.2)) = _
    rw [lt_pair hI (hin _ (hmem b hb)).2 (hin _ (hmem a ha)).2]
    exact fnd_le ws.length hn _ (hmem a ha) _ (hmem b hb)
  have hfst : (l.map fun q => (allI ws.length).idxOf q.2) = (fndI ws.length).map fun b => (allI ws.length).idxOf b := by
    rw [← hl, List.map_map]
    rfl
  have hr : ((fndI ws.length).map fun b => (allI ws.length).idxOf b).mergeSort (fun a b => decide (a ≤ b)) = List.range (allI ws.length).length := by
    refine List.Perm.eq_of_pairwise (le := fun a b : Nat => decide (a ≤ b) = true) (fun a b _ _ h1 h2 => ?_) (List.pairwise_mergeSort (fun a b c h1 h2 => ?_) (fun a b => ?_) _) ?_ ((List.mergeSort_perm _ _).trans (List.isPerm_iff.mp hp))
    · have := of_decide_eq_true h1
      have := of_decide_eq_true h2
      omega
    · have := of_decide_eq_true h1
      have := of_decide_eq_true h2
      exact decide_eq_true (by omega)
    · rcases Nat.le_total a b with h | h <;> simp [h]
    · exact (List.pairwise_le_range).imp fun h => decide_eq_true h
  rw [hfst, hr] at key
  have back : (l.mergeSort (dataLe false fun q => pairD ws q.2)).map (·.2) = ((l.mergeSort (dataLe false fun q => pairD ws q.2)).map (fun q => (allI ws.length).idxOf q.2)).map fun i => (allI ws.length).getD i [] := by
    rw [List.map_map]
    refine List.map_congr_left fun q hq => ?_
    have hq' := hall _ (hmem q ((List.mergeSort_perm l _).mem_iff.mp hq))
    show q.2 = (allI ws.length).getD ((allI ws.length).idxOf q.2) []
    have hlt := List.idxOf_lt_length_iff.mpr hq'
    rw [List.getD_eq_getElem?_getD, List.getElem?_eq_getElem hlt, List.getElem_idxOf hlt]
    rfl
  rw [back, key]
  apply List.ext_getElem?
  intro i
  rw [List.getElem?_map]
  by_cases h : i < (allI ws.length).length
  · rw [List.getElem?_range h, List.getElem?_eq_getElem h, Option.map_some, List.getD_eq_getElem?_getD, List.getElem?_eq_getElem h]
    rfl
  · rw [List.getElem?_eq_none (by simp; omega), List.getElem?_eq_none (by omega)]
    rfl
end Lw

namespace Lw
open PySem PySem.Spec PyProof.Rows L2 HT
/-! ### t[::-1] of a tuple -/
section
variable {prog : Program} {w : World} {A : Around} {E : Value → Shared → Prop} {s : Shared}
theorem adjust_rev (n : Nat) : Builtin.Slice.sliceAdjust none none (-1) (n : Int) = ((n : Int) - 1, -1) := by
  have h1 : ((-1 : Int) < 0) := by omega
  unfold Builtin.Slice.sliceAdjust
  simp only [h1, if_true]
theorem places_rev (n : Nat) : Builtin.Slice.slicePlaces ((n : Int) - 1) (-1) (-1) = n := by
  unfold Builtin.Slice.slicePlaces
  have h1 : ¬ ((-1 : Int) > 0) := by omega
  simp only [h1, if_false]
  have e : (n : Int) - 1 - -1 - 1 = (n : Int) - 1 := by omega
  rw [e, show (- -1 : Int) = 1 from rfl, Int.ediv_one]
  split <;> omega
theorem fm_some {α β : Type} (f : α → Option β) (g : α → β) : ∀ l : List α, (∀ a ∈ l, f a = some (g a)) → l.filterMap f = l.map g
  | [], _ => rfl
  | a :: l, h => by
    rw [List.filterMap_cons, h a List.mem_cons_self, List.map_cons]
    show g a :: l.filterMap f = _
    rw [fm_some f g l fun b hb => h b (List.mem_cons_of_mem _ hb)]
theorem pick_rev (xs : Array Value) : ((List.range xs.size).filterMap fun (k : Nat) => xs[((xs.size : Int) - 1 + (k : Int) * -1).toNat]?).toArray = xs.toList.reverse.toArray := by
  congr 1
  have e : ((List.range xs.size).filterMap fun (k : Nat) => xs[((xs.size : Int) - 1 + (k : Int) * -1).toNat]?) = (List.range xs.size).map fun k => xs.toList.reverse.getD k .none := by
    refine fm_some _ _ _ fun k hk => ?_
    have hk' := List.mem_range.mp hk
    have h2 : ((xs.size : Int) - 1 + (k : Int) * -1).toNat = xs.size - 1 - k := by omega
    rw [h2]
    show xs[xs.size - 1 - k]? = some (xs.toList.reverse.getD k .none)
    rw [List.getD_eq_getElem?_getD, List.getElem?_reverse (by simpa using hk'), Array.length_toList, Array.getElem?_toList, Array.getElem?_eq_getElem (by omega : xs.size - 1 - k < xs.size)]
    rfl
  rw [e]
  apply List.ext_getElem?
  intro i
  rw [List.getElem?_map]
  by_cases h : i < xs.size
  · rw [List.getElem?_range h, Option.map_some, List.getD_eq_getElem?_getD, List.getElem?_eq_getElem (by simpa using h)]
    rfl
  · rw [List.getElem?_eq_none (by simp; omega), List.getElem?_eq_none (by simp; omega)]
    rfl
theorem sliceApplied_rev {sl : Addr} {vl vu vs : Value} {n : Nat} {Q : Int × Int × Nat → Shared → Prop} (hs : s.heap.IsSliceOf sl vl vu vs) (pl : IsPart vl none) (pu : IsPart vu none) (ps : IsPart vs (some (-1)))
    (h : Q ((n : Int) - 1, -1, n) s) : wpAny (model prog w) A (Builtin.Slice.sliceApplied (.ref sl) (pure (n : Int))) Q E s := by
  obtain ⟨os, hos, hcs, hds⟩ := id hs
  unfold Builtin.Slice.sliceApplied Builtin.Slice.sliceFields
  refine wpAny_bind (wpAny_bind (wpAny_field hos hds (x := vl) rfl (wpAny_bind (wpAny_field hos hds (x := vu) rfl (wpAny_bind (wpAny_field hos hds (x := vs) rfl (wpAny_pure ?_)))))))
  refine wpAny_bind (slicePart_ ps ?_)
  show wpAny _ _ (if ((-1 : Int) == 0) = true then _ else _) _ _ s
  rw [if_neg (by decide)]
  refine wpAny_bind (slicePart_ pl (wpAny_bind (slicePart_ pu (wpAny_bind (wpAny_pure ?_)))))
  show wpAny _ _ (match Builtin.Slice.sliceAdjust none none (-1) (n : Int) with | (lo, hi) => pure (lo, (-1 : Int), Builtin.Slice.slicePlaces lo hi (-1))) _ _ s
  rw [adjust_rev]
  show wpAny _ _ (pure ((n : Int) - 1, (-1 : Int), Builtin.Slice.slicePlaces ((n : Int) - 1) (-1) (-1))) _ _ s
  rw [places_rev]
  exact wpAny_pure h
theorem getItem_tuple_rev {t sl : Addr} {items : Array Value} {vl vu vs : Value} {Q : Value → Shared → Prop} (ht : IsTup s.heap t items) (hs : s.heap.IsSliceOf sl vl vu vs) (pl : IsPart vl none) (pu : IsPart vu none) (ps : IsPart vs (some (-1)))
    (h : Q (.ref s.heap.objs.size) { s with heap := s.heap.push { cls := .type "tuple", data := .seq items.toList.reverse.toArray } })
    (hsz : items.size ≤ sizeLine) : wpAny (model prog w) A (getItem (.ref t) (.ref sl)) Q E s := by
  have hok : sizeOk (.seq items.toList.reverse.toArray) := by
    show items.toList.reverse.toArray.size ≤ sizeLine
    rw [List.size_toArray, List.length_reverse, Array.length_toList]
    exact hsz
  obtain ⟨os, hos, hcs, hds⟩ := id hs
  have isS : s.TypeIs (.ref sl) "slice" := ⟨os, hos, hcs⟩
  unfold getItem
  try with_reducible refine wpAny_holding ?_
  first | refine wpAny_bind (wpAny_pure ?_) | skip
  refine wpAny_bind (wpAny_sequenceKey ht.typeIs (by decide) ?_)
  refine wpAny_bind (wpAny_callSpecial?_slot (name := Str.ofString "__getitem__") ht.typeIs PyProof.Rows.slot_tuple_getitem (wpAny_call_entry PyProof.Rows.slot_tuple_getitem ht.typeIs entry_tuple_getitem ?_ (args_tuple_getitem _ _)))
  show wpAny _ _ (Builtin.Tuple.tupleItemsOf (.ref t) >>= _) _ _ s
  refine wpAny_bind (tupleItemsOf_ ht ?_)
  refine wpAny_bind (wpAny_typeOf isS ?_)
  rw [if_pos (by decide)]
  refine wpAny_bind (sliceApplied_rev hs pl pu ps ?_)
  have no : ¬ ((((items.size : Int) - 1 == 0) && ((-1 : Int) == 1) && (items.size == items.size)) = true) := by
    rw [show ((-1 : Int) == 1) = false from by decide, Bool.and_false, Bool.false_and]
    simp
  show wpAny _ _ (if ((((items.size : Int) - 1 == 0) && ((-1 : Int) == 1) && (items.size == items.size)) = true) then _ else _) _ _ s
  rw [if_neg no, pick_rev]
  first
    | exact wpAny_bind (m := Builtin.Tuple.tupleExact _) (wpAny_newObj_type (wpAny_pure ⟨_, rfl, wpAny_pure h⟩) hok)
    | exact wpAny_bind (m := Builtin.Tuple.tupleExact _) (wpAny_newObj_type (wpAny_bind (wpAny_pure (wpAny_pure ⟨_, rfl, wpAny_pure h⟩))) hok)
    | exact wpAny_bind (wpAny_bind (m := Builtin.Tuple.tupleExact _) (wpAny_newObj_type (wpAny_pure (wpAny_pure ⟨_, rfl, wpAny_pure h⟩)) hok))
    | exact wpAny_bind (wpAny_bind (m := Builtin.Tuple.tupleExact _) (wpAny_newObj_type (wpAny_pure ⟨_, rfl, wpAny_pure h⟩) hok))
end
section
variable {X : Cx}
def tRevT (K : PySem.W.Frag) (te : TE) : TE := fun σ H Q => te σ H fun x H1 => ∃ a xs, x = .ref a ∧ SqT K H1 a xs ∧ ∀ p, H1 p = none → Q (.ref p) (upd H1 p (.tup xs.reverse))
theorem pe_revT {e : Expr} {te : TE} {k : Nat} {p1 p2 p3 pos : Pos} (he : PE X e te) : PE X (.Subscript e (.Slice none none (some (.UnaryOp .USub (.Constant (.int 1) k p1) p2)) p3) pos) (tRevT X.K te) := by
  refine ⟨fun pins s σ H Q I h => ?_⟩
  refine Subscript_ (thn (he.run pins s σ H _ I h) fun v s1 ⟨x, H1, I1, r1, q1⟩ => ?_)
  obtain ⟨a, xs, ex, hx, q⟩ := q1
  subst ex
  cases r1
  have hst : PO X (some (.UnaryOp .USub (.Constant (.int 1) k p1) p2)) (tPart (tUn (rU fun i => .int (-i)) (tC (.int 1)))) := po_some (pe_un un_neg pe_int)
  refine wpAny_Slice (thn (po_none.run pins s1 σ H1 (fun o H2 => o = none ∧ H2 = H1) I1 ⟨rfl, rfl⟩) fun vl s2 ⟨l, H2, I2, pl, el, e2⟩ => ?_)
  subst el e2
  refine thn (po_none.run pins s2 σ H2 (fun o H3 => o = none ∧ H3 = H2) I2 ⟨rfl, rfl⟩) fun vu s3 ⟨u, H3, I3, pu, eu, e3⟩ => ?_
  subst eu e3
  refine thn (hst.run pins s3 σ H3 (fun o H4 => o = some (-1) ∧ H4 = H3) I3 ⟨1, rfl, -1, rfl, rfl, rfl⟩) fun vs s4 ⟨o, H4, I4, ps, eo, e4⟩ => ?_
  subst eo e4
  have I5 : Inv X pins σ H4 { s4 with heap := s4.heap.push { cls := .type "slice", data := .fields #[vl, vu, vs] } } := I4.kept (t' := s4.toks) fun b ob q => Heap.get?_push_of_some _ q
  obtain ⟨its, r, tp, hz⟩ := I5.tuple hx
  have hlen := r.length
  show wpAny (model X.prog X.w) X.A (subscriptTail e (.Slice none none (some (.UnaryOp .USub (.Constant (.int 1) k p1) p2)) p3) (.ref a) (.ref s4.heap.objs.size)) (EP X pins σ Q) X.xe { s4 with heap := s4.heap.push { cls := .type "slice", data := .fields #[vl, vu, vs] } }
  refine tail_any (ops := [.ref a, .ref s4.heap.objs.size]) tp.typeIs (PyProof.Rows.slot_tuple_getitem.lookup) ?_ (by with_unfolding_all rfl)
  refine getItem_tuple_rev tp (Heap.IsSliceOf.new _ vl vu vs) pl pu ps ?_ (by rw [List.size_toArray]; omega)
  refine ⟨.ref _, _, I5.laid (t' := s4.toks) (o := .tup xs.reverse) (fun b ob q => Heap.get?_push_of_some _ q) (Nat.le_refl _) ?_, rfl, q _ (I5.hok.fresh (Nat.le_refl _))⟩
  exact ⟨by rw [List.length_reverse]; exact hz, _, r.reverse, ⟨_, Heap.get?_push_size _ rfl, rfl, _, rfl⟩⟩
end
end Lw

namespace Lw
open PySem PySem.Spec PyProof.Rows L2
/-! ### values that stand apart from the state -/
/-- what may stand in a tuple -/
def It1 (st : Addr) (H : Hp) (v : V) : Prop := (∃ z, v = .str z ∧ SOk z) ∨ (∃ i, v = .int i) ∨ v = .non ∨ (∃ a, ∃ zs : List Str, v = .ref a ∧ Ap H st a (.tup (zs.map V.str)) ∧ ∀ z ∈ zs, SOk z) ∨ (∃ a, ∃ zs : List Str, v = .ref a ∧ Ap H st a (.lst (zs.map V.str)) ∧ ∀ z ∈ zs, SOk z)
def It0 (st : Addr) (H : Hp) (v : V) : Prop := (∃ z, v = .str z ∧ SOk z) ∨ (∃ i, v = .int i) ∨ v = .non ∨ (∃ a, ∃ zs : List Str, v = .ref a ∧ Ap H st a (.tup (zs.map V.str)) ∧ ∀ z ∈ zs, SOk z)
theorem It0.to1 {st : Addr} {H : Hp} {v : V} (h : It0 st H v) : It1 st H v := by
  rcases h with h | h | h | h
  · exact .inl h
  · exact .inr (.inl h)
  · exact .inr (.inr (.inl h))
  · exact .inr (.inr (.inr (.inl h)))
theorem It0.kp {st : Addr} {H H' : Hp} {v : V} (k : Kp st H H') (h : It0 st H v) : It0 st H' v := by
  rcases h with h | h | h | ⟨a, zs, h1, h2, h3⟩
  · exact .inl h
  · exact .inr (.inl h)
  · exact .inr (.inr (.inl h))
  · exact .inr (.inr (.inr ⟨a, zs, h1, k _ _ h2, h3⟩))
/-- any value -/
def Cd (st : Addr) (H : Hp) (v : V) : Prop := (∃ a xs, v = .ref a ∧ Ap H st a (.tup xs) ∧ ∀ x ∈ xs, It1 st H x) ∨ (∃ z, v = .str z) ∨ v = .non ∨ (∃ b, v = .bl b) ∨ (∃ i, v = .int i) ∨ (∃ a xs, v = .ref a ∧ Ap H st a (.lst xs)) ∨ (∃ a kvs, v = .ref a ∧ Ap H st a (.dK kvs))
theorem It1.kp {st : Addr} {H H' : Hp} {v : V} (k : Kp st H H') (h : It1 st H v) : It1 st H' v := by
  rcases h with h | h | h | ⟨a, zs, h1, h2, h3⟩ | ⟨a, zs, h1, h2, h3⟩
  · exact .inl h
  · exact .inr (.inl h)
  · exact .inr (.inr (.inl h))
  · exact .inr (.inr (.inr (.inl ⟨a, zs, h1, k _ _ h2, h3⟩)))
  · exact .inr (.inr (.inr (.inr ⟨a, zs, h1, k _ _ h2, h3⟩)))
theorem Cd.kp {st : Addr} {H H' : Hp} {v : V} (k : Kp st H H') (h : Cd st H v) : Cd st H' v := by
  rcases h with ⟨a, xs, h1, h2, h3⟩ | h | h | h | h | ⟨a, xs, h1, h2⟩ | ⟨a, xs, h1, h2⟩
  · exact .inl ⟨a, xs, h1, k _ _ h2, fun x hx => (h3 x hx).kp k⟩
  · exact .inr (.inl h)
  · exact .inr (.inr (.inl h))
  · exact .inr (.inr (.inr (.inl h)))
  · exact .inr (.inr (.inr (.inr (.inl h))))
  · exact .inr (.inr (.inr (.inr (.inr (.inl ⟨a, xs, h1, k _ _ h2⟩)))))
  · exact .inr (.inr (.inr (.inr (.inr (.inr ⟨a, xs, h1, k _ _ h2⟩)))))
theorem It1.dp {K : PySem.W.Frag} {st : Addr} {H : Hp} {v : V} (h : It1 st H v) : ∃ d, Dp K H v d ∧ GoodD 1 d := by
  rcases h with ⟨z, rfl, hz⟩ | ⟨i, rfl⟩ | rfl | ⟨a, zs, rfl, h2, h3⟩ | ⟨a, zs, rfl, h2, h3⟩
  · exact ⟨_, .str z, good_str hz⟩
  · exact ⟨_, .int i, good_int i⟩
  · exact ⟨_, .non, good_none⟩
  · exact ⟨_, dp_strsT (Evl.st_of h2.1), good_strsT h3⟩
  · exact ⟨_, dp_strs (Evl.sq_of h2.1), good_strs h3⟩
theorem its_dp {K : PySem.W.Frag} {st : Addr} {H : Hp} : ∀ {xs : List V}, (∀ x ∈ xs, It1 st H x) → ∃ ds, DpAll K H xs ds ∧ ∀ d ∈ ds, GoodD 1 d
  | [], _ => ⟨[], .nil, fun _ h => by cases h⟩
  | x :: xs, h => by
    obtain ⟨d, h1, h2⟩ := (h x List.mem_cons_self).dp (K := K)
    obtain ⟨ds, h3, h4⟩ := its_dp (K := K) fun y hy => h y (List.mem_cons_of_mem _ hy)
    refine ⟨d :: ds, .cons h1 h3, fun e he => ?_⟩
    rcases List.mem_cons.mp he with rfl | he
    · exact h2
    · exact h4 e he
section
variable {K : PySem.W.Frag} {st a b : Addr} {H : Hp} {n : Nat} {xs ys : List V} {Q : VK}
theorem catA_ap (D : DS H st n) (ha : Ap H st a (.tup xs)) (hb : Ap H st b (.tup ys)) (hl : xs.length + ys.length ≤ 100000) (q : ∀ r H', DS H' st n → Kp st H H' → Ap H' st r (.tup (xs ++ ys)) → Q (.ref r) H') : rCatA K (.ref a) (.ref b) H Q := by
  refine ⟨a, b, xs, ys, rfl, rfl, Evl.st_of ha.1, Evl.st_of hb.1, Evl.sz_of hl, fun h0 => ?_, fun _ h0 => ?_, fun _ _ p np => ?_⟩
  · subst h0
    exact q b H D (Kp.refl _ _) hb
  · subst h0
    refine q a H D (Kp.refl _ _) ?_
    rw [List.append_nil]
    exact ha
  · exact q p _ (D.new np) (D.newK np) (D.fresh np)
theorem slA_ap {k : Nat} (D : DS H st n) (ha : Ap H st a (.tup xs)) (q : ∀ r H', DS H' st n → Kp st H H' → Ap H' st r (.tup (xs.take k)) → Q (.ref r) H') : rSlA K (.ref a) none (some (k : Int)) H Q := by
  refine ⟨a, xs, rfl, Evl.st_of ha.1, fun hw => ?_, fun _ p np => ?_⟩
  · refine q a H D (Kp.refl _ _) ?_
    rw [← cutV_to]
    have : cutV xs none (some (k : Int)) = xs := by
      unfold cutV
      rw [hw.1, hw.2, List.drop_zero, Nat.sub_zero, List.take_of_length_le (Nat.le_refl _)]
    rw [this]
    exact ha
  · rw [cutV_to]
    exact q p _ (D.new np) (D.newK np) (D.fresh np)
end
end Lw

namespace Lw
open PySem PySem.Spec PyProof.Rows L2
open PySem.Froz (SD sObj TxOk addTx tailTx)
/-! ### sets of texts -/
/-- at a: a set that holds the texts l -/
def SetT (P : Program) (w : World) (h : Heap) (a : Addr) (l : List Str) : Prop :=
  ∃ D : SD, h.get? a = some (sObj "set" D) ∧ TxOk P w D l ∧ l.Nodup ∧ Ris D.2.2.place.toList ∧ (w.params.followText "set-order" = true ∨ D.2.2.led = true)
theorem SetT.at {P : Program} {w : World} {h h' : Heap} {a : Addr} {l : List Str} (k : ∀ o, h.get? a = some o → h'.get? a = some o) (R : SetT P w h a l) : SetT P w h' a l := by
  obtain ⟨D, h1, r⟩ := R
  exact ⟨D, k _ h1, r⟩
theorem tail_ris (ep : Nat) (es : Array (Int × Value)) (t : SetTable) (d : Bool) (r : Ris t.place.toList) : Ris (tailTx ep es t d).2.2.place.toList := by
  unfold tailTx
  split
  · exact relayAll_ris _ _ _
  · exact r
theorem tail_led (ep : Nat) (es : Array (Int × Value)) (t : SetTable) (d : Bool) : (tailTx ep es t d).2.2.led = t.led := by
  unfold tailTx
  split
  · exact relayAll_led _ _ _
  · rfl
theorem addTx_ris (z : Int) (v : Value) (D : SD) (r : Ris D.2.2.place.toList) : Ris (addTx z v D).2.2.place.toList := by
  refine tail_ris _ _ _ _ ?_
  have h1 := layNew_ris D.2.2 D.1 z v r
  split
  · exact h1
  · exact h1
theorem addTx_led (z : Int) (v : Value) (D : SD) : (addTx z v D).2.2.led = D.2.2.led := by
  refine (tail_led _ _ _ _).trans ?_
  have h1 := layNew_led D.2.2 D.1 z v
  split
  · exact h1
  · exact h1
section
variable {P : Program} {w : World} {A : Around} {E : Value → Shared → Prop} {s : Shared} {a : Addr} {l : List Str} {k : Str} {u : Tok} {Q : Bool → Shared → Prop}
/-- a text that is there already is added: nothing comes of it -/
theorem old_add {D : SD} (ho : s.heap.get? a = some (sObj "set" D)) (F : TxOk P w D l) (hk : k ∈ l) (hb : l.length < scanBound) (h : Q false s) : wpAny (model P w) A (setAddHashed a (.str k u) (hashStr w k)) Q E s := by
  obtain ⟨es, ep, t⟩ := D
  have hd : (sObj "set" (es, ep, t)).data = .set es ep t := rfl
  have hf : t.fits es.size = true := F.fit
  have hel : ElemsOf (strKind P w) es.toList := F.el
  have hsz : es.size = l.length := F.sz
  have hkey : (strKind P w).is k (.str k u) = true := PySem.Froz.is_str k u
  obtain ⟨e, he, hie⟩ := (F.mem k).mp hk
  unfold setAddHashed setAddHashedIn
  refine wpAny_holding (wpAny_bind (wpAny_setState_of ho hd hf ?_))
  dsimp only
  rw [byScan_of rfl (by omega : es.size < scanBound) hel]
  simp only [↓reduceIte]
  unfold setAddByScan
  refine wpAny_bind (wpAny_bind (wpAny_rule (wpAny_bind (wpAny_setScan_of (knd := strKind P w) (k := k) hkey ho hd hf hel ?_))))
  cases hr : List.findIdx? (fun e => (strKind P w).is k e.2) es.toList with
  | none =>
    have := List.findIdx?_eq_none_iff.mp hr e he
    rw [hie] at this
    cases this
  | some j => exact wpAny_pure (wpAny_pure h)
theorem setT_add (R : SetT P w s.heap a l) (hb : l.length + 1 < scanBound)
    (h : ∀ b h' l', Heap.SameBut a s.heap h' → SetT P w h' a l' → (∀ z, z ∈ l' ↔ z = k ∨ z ∈ l) → l'.length ≤ l.length + 1 → Q b { s with heap := h' }) : wpAny (model P w) A (setAddHashed a (.str k u) (hashStr w k)) Q E s := by
  obtain ⟨D, ho, F, nd, r, hl⟩ := R
  by_cases hk : k ∈ l
  · refine old_add ho F hk (by omega) (h false s.heap l (Heap.SameBut.refl a s.heap) ⟨D, ho, F, nd, r, hl⟩ (fun z => ⟨.inr, fun q => q.elim (fun e => by rw [e]; exact hk) id⟩) (by omega))
  · refine PySem.Froz.add_x ho F hk hb (h true _ (k :: l) (Heap.SameBut.update s.heap a _) ⟨_, PySem.Froz.get_upd _ ho rfl, PySem.Froz.add_ok u F, List.nodup_cons.mpr ⟨hk, nd⟩, addTx_ris _ _ _ r, ?_⟩ (fun z => List.mem_cons) (Nat.le_refl _))
    rw [addTx_led]
    exact hl
end
section
variable {P : Program} {w : World} {A : Around} {I S : Addr} {fp wr : List Addr} {G : Array GenState → Array GenState → Prop} {n : Nat} {Pv : Nat → Value → Prop} {St : Nat → Shared → Prop} {R : Result → Shared → Prop}
/-- the texts of an iterator go into the set -/
theorem set_takes (W : WalksS P w A.in1 I fp wr G n Pv St) (out : S ∉ fp) (ws : List Str) (hn : n = ws.length) (hb : n + 1 < scanBound) (hval : ∀ i v, Pv i v → ∃ k u, ws[i]? = some k ∧ v = .str k u) :
    ∀ (m i : Nat) (s : Shared) (l : List Str), i + m = n → St i s → SetT P w s.heap S l → (∀ z, z ∈ l ↔ z ∈ ws.take i) → l.length ≤ i →
      (∀ s' l', Moved (S :: wr) G s s' → SetT P w s'.heap S l' → (∀ z, z ∈ l' ↔ z ∈ ws) → l'.length ≤ n → R (.ok (.ret .none)) s') →
      codeAny (model P w) A (.builtin "set.update.loop" ⟨[.ref S, .ref I], []⟩) R s := by
  have off : S ∉ wr := fun h => out (W.sub _ h)
  have more : ∀ b ∈ wr, b ∈ S :: wr := fun b h => List.mem_cons_of_mem _ h
  intro m
  induction m with
  | zero =>
    intro i s l hi hst hS hl hc hR
    obtain rfl : i = n := by omega
    refine codeAny_builtin F.entry_set_update_loop ?_
    rw [Around.under_plainId F.plain_set_update_loop _]
    show wpAny _ A.in1 (pyNext (.ref I) >>= _) _ _ s
    refine wpAny_bind (W.done s _ _ hst fun s' hm => wpAny_pure ?_)
    rw [List.take_of_length_le (Nat.le_of_eq hn.symm)] at hl
    exact hR s' l (hm.mono more) (hS.at fun o e => hm.heap S o off e) hl hc
  | succ m ih =>
    intro i s l hi hst hS hl hc hR
    refine codeAny_builtin F.entry_set_update_loop ?_
    rw [Around.under_plainId F.plain_set_update_loop _]
    show wpAny _ A.in1 (pyNext (.ref I) >>= _) _ _ s
    refine wpAny_bind (W.item i s _ _ (by omega) hst fun v s' hP hst' hm => ?_)
    obtain ⟨z, u, hz, rfl⟩ := hval i v hP
    show wpAny _ A.in1 (holding [Value.str z u] (setAdd S (.str z u)) >>= _) _ _ s'
    refine wpAny_bind (wpAny_holding ?_)
    unfold setAdd
    refine wpAny_holding (wpAny_bind ((strKind P w).pyHash (k := z) (PySem.Froz.is_str z u) ?_))
    refine setT_add (s := { s' with toks := s'.toks + 1 }) (l := l) (hS.at fun o e => hm.heap S o off e) (by omega) fun b h' l' sb hS2 hl2 hc2 => ?_
    refine wpAny_pure ⟨plainId_quiet F.plain_set_update_loop _, ih (i + 1) _ l' (by omega) (W.frame _ s' _ _ hst' (Nat.le_succ _) fun b hb o e => (sb.2 b fun q : b = S => out (by rw [← q]; exact hb)).trans e) hS2 (fun y => ?_) (by omega) fun s2 l2 hm2 => ?_⟩
    · rw [hl2 y, hl y, List.take_add_one, hz, List.mem_append]
      simp [or_comm]
    · exact hR s2 l2 (Moved.trans W.gtrans ((hm.mono more).then_heap (Nat.le_succ _) fun b o hb e => (sb.2 b fun q : b = S => hb (by rw [q]; exact List.mem_cons_self)).trans e) hm2)
end
section
variable {P : Program} {w : World} {A : Around} {E : Value → Shared → Prop} {s : Shared}
/-- set(x): the new set, then its __init__ -/
theorem callType_set {x : Value} {Q : Value → Shared → Prop}
    (h : wpAny (model P w) A.in1.in1 (Builtin.«set.__init__» ⟨[.ref s.heap.objs.size, x], []⟩)
        (fun fin s' => match fin with | .done f => wants (fun r s₂ => r = .none ∧ Q (.ref s.heap.objs.size) s₂) E (.ok f) s' | .again c' => c'.quiet = true ∧ codeAny (model P w) A.in1 c' (wants (fun r s₂ => r = .none ∧ Q (.ref s.heap.objs.size) s₂) E) s')
        (fun e s' => wants (fun r s₂ => r = .none ∧ Q (.ref s.heap.objs.size) s₂) E (.error e) s') { s with heap := s.heap.push { cls := .type "set", dict := none, data := .set #[] 0 (.fresh 0 0 (!w.params.followText "set-order")) } }) :
    wpAny (model P w) A (call (.type "set") [x]) Q E s := by
  have ft := F.called_set
  obtain ⟨c, tl, hmro⟩ := ft.mro
  have hmade := ft.made
  have hsub := ft.sub
  have hct := F.typeCall_set_1 x
  refine wpAny_call (codeAny_of_tree ?_)
  show wpAny _ _ (callAny (.type "set") _) _ _ _
  refine wpAny_pure ⟨Code.quiet_builtin _ (by decide +kernel), codeAny_builtin F.entry_type_call ?_⟩
  rw [Around.under_plain (weight_type_call_type "set" [x] []) rfl]
  have h1 := ft.notType
  have h2 := ft.canCreate
  repeat (any_goals (first | assumption | wp_step))
  refine codeAny_mono (code_set_led1 x (E := E) (Q₁ := fun obj s₁ => obj = .ref s.heap.objs.size ∧ s₁ = { s with heap := s.heap.push { cls := .type "set", dict := none, data := .set #[] 0 (.fresh 0 0 (!w.params.followText "set-order")) } }) ⟨rfl, rfl⟩) fun r s₁ hr => ?_
  cases r with
  | error e => exact hr
  | ok fl =>
    cases fl with
    | ret obj =>
      obtain ⟨rfl, rfl⟩ := hr
      have isSet : Shared.TypeIs { s with heap := s.heap.push { cls := .type "set", dict := none, data := .set #[] 0 (.fresh 0 0 (!w.params.followText "set-order")) } } (.ref s.heap.objs.size) "set" := ⟨_, Heap.get?_push_size _ rfl, rfl⟩
      have hli := ft.init.lookup
      have hbi := ft.init.bind (.ref s.heap.objs.size)
      repeat (any_goals (first | assumption | wp_step))
      refine codeAny_mono (codeAny_call_builtin (R := wants (fun r s₂ => r = .none ∧ Q (.ref s.heap.objs.size) s₂) E) ft.init.plain F.entry_set_init (check_set_init_1 isSet h)) fun r2 s2 hr2 => ?_
      cases r2 with
      | error e => exact hr2
      | ok fl2 =>
        cases fl2 with
        | ret r =>
          obtain ⟨rfl, hq⟩ := hr2
          repeat (any_goals (first | assumption | wp_step))
        | _ => exact hr2.elim
    | _ => exact hr.elim
/-- set(list of texts) -/
theorem call_setTx {p : Addr} {items : Array Value} {ws : List Str} {Q : Value → Shared → Prop} (hh : A.handled = none) (hl : s.heap.IsList p items) (hn : items.size = ws.length) (hb : ws.length + 1 < scanBound) (hval : ∀ (i : Nat) (v : Value), items[i]? = some v → ∃ k u, ws[i]? = some k ∧ v = .str k u)
    (h : ∀ (h' : Heap) (tk : Nat) (l : List Str), SetT P w h' s.heap.objs.size l → (∀ z, z ∈ l ↔ z ∈ ws) → l.length ≤ ws.length → (∀ b o, s.heap.get? b = some o → h'.get? b = some o) → Q (.ref s.heap.objs.size) { s with heap := h', toks := tk }) :
    wpAny (model P w) A (call (.type "set") [.ref p]) Q E s := by
  refine callType_set ?_
  have hS : (s.heap.push { cls := .type "set", dict := none, data := .set #[] 0 (.fresh 0 0 (!w.params.followText "set-order")) }).get? s.heap.objs.size = some { cls := .type "set", dict := none, data := .set #[] 0 (.fresh 0 0 (!w.params.followText "set-order")) } := Heap.get?_push_size _ rfl
  obtain ⟨ol, hol, hcl, nl, hdl⟩ := hl
  obtain ⟨ocls, odict, odata, oslots⟩ := ol
  simp only at hcl hdl
  subst hcl
  subst hdl
  have own : (s.heap.push { cls := .type "set", dict := none, data := .set #[] 0 (.fresh 0 0 (!w.params.followText "set-order")) }).get? p = some { cls := .type "list", dict := odict, data := .seq items nl, slots := oslots } := Heap.get?_push_of_some _ hol
  have isL : (s.heap.push { cls := .type "set", dict := none, data := .set #[] 0 (.fresh 0 0 (!w.params.followText "set-order")) }).IsList p items := ⟨_, own, rfl, nl, rfl⟩
  have s1 := F.sub_list_set
  have s2 := F.sub_list_frozenset
  have s3 : (Value.type "list" == Value.type "dict") = false := by decide
  unfold Builtin.«set.__init__» noKeywords Builtin.Frozenset.updateFrom
  generalize hPI : pyIter = PI
  wp_walk
  subst hPI
  refine wpAny_pyIter_list isL ?_
  refine wpAny_bind (wpAny_runValue ?_)
  have lt : p < s.heap.objs.size := Heap.lt_size hol
  have hz : (s.heap.push { cls := .type "set", dict := none, data := .set #[] 0 (.fresh 0 0 (!w.params.followText "set-order")) }).objs.size = s.heap.objs.size + 1 := Heap.size_push ..
  have calm : A.in1.in1.in1.handled = none := by simp [hh]
  have neI : p ≠ (s.heap.push { cls := .type "set", dict := none, data := .set #[] 0 (.fresh 0 0 (!w.params.followText "set-order")) }).objs.size := by
    rw [hz]
    exact Nat.ne_of_lt (Nat.lt_succ_of_lt lt)
  have outS : s.heap.objs.size ∉ [(s.heap.push { cls := .type "set", dict := none, data := .set #[] 0 (.fresh 0 0 (!w.params.followText "set-order")) }).objs.size, p] := by
    rw [hz]
    intro q
    rcases List.mem_cons.mp q with q | q
    · exact absurd q (Nat.ne_of_lt (Nat.lt_succ_self _))
    · exact absurd (List.mem_singleton.mp q) (Nat.ne_of_gt lt)
  refine set_takes ((Walks.list calm _ p neI items).toS) outS ws hn (by omega) hval items.size 0 _ [] (by omega) ⟨⟨_, Heap.get?_push_size _ rfl, rfl, rfl⟩, isL.push _⟩ ⟨(#[], 0, .fresh 0 0 (!w.params.followText "set-order")), Heap.get?_push_of_some _ hS, PySem.Froz.TxOk.nil (by rfl), List.nodup_nil, List.Pairwise.nil, ?_⟩ (fun z => by simp) (Nat.le_refl _) fun s' l' hm hS' hl' hc' => ?_
  · show _ ∨ (!w.params.followText "set-order") = true
    cases w.params.followText "set-order" <;> simp
  · obtain ⟨h', g2, d2, tk2, os2⟩ := s'
    have e1 : g2 = s.gens := hm.gens
    have e2 : d2 = s.drawn := hm.drawn
    have e3 : os2 = s.os := hm.os
    subst e1 e2 e3
    refine wpAny_pure (wpAny_pure ⟨rfl, h h' tk2 l' hS' hl' (by omega) fun b o e => hm.heap b o ?_ (Heap.get?_push_of_some _ (Heap.get?_push_of_some _ e))⟩)
    have lb := Heap.lt_size e
    rw [hz]
    intro q
    rcases List.mem_cons.mp q with q | q
    · exact absurd q (Nat.ne_of_lt lb)
    · exact absurd (List.mem_singleton.mp q) (Nat.ne_of_lt (Nat.lt_succ_of_lt lb))
end
end Lw

namespace Lw
open PySem PySem.Spec PyProof.Rows L2
open PySem.Froz (SD sObj TxOk addTx tailTx)
theorem perm_of_same : ∀ {l bs : List Str}, l.Nodup → (∀ z ∈ l, z ∈ bs) → bs.length ≤ l.length → bs.Perm l
  | [], bs, _, _, h => by
    rw [List.length_eq_zero_iff.mp (Nat.le_zero.mp h)]
  | x :: l, bs, nd, h, hl => by
    obtain ⟨hx, nd'⟩ := List.nodup_cons.mp nd
    have hm := h x List.mem_cons_self
    refine (List.perm_cons_erase hm).trans (List.Perm.cons x (perm_of_same nd' (fun z hz => ?_) ?_))
    · exact (List.mem_erase_of_ne fun e => hx (by rw [← e]; exact hz)).mpr (h z (List.mem_cons_of_mem _ hz))
    · rw [List.length_erase_of_mem hm]
      rw [List.length_cons] at hl
      omega
theorem srt_congr {a b : List Str} (h : a.Perm b) : srt a = srt b := by
  refine List.Perm.eq_of_pairwise (le := fun a b : Str => decide (a.cps.toList ≤ b.cps.toList) = true) (fun x y _ _ h1 h2 => ?_) (srt_sorted a) (srt_sorted b) (((srt_perm a).trans h).trans (srt_perm b).symm)
  exact str_ext (List.le_antisymm (of_decide_eq_true h1) (of_decide_eq_true h2))
theorem isStr_eq {z k : Str} {u : Tok} (h : Value.isStrOf z (.str k u) = true) : z = k := by
  unfold Value.isStrOf at h
  have := eq_of_beq h
  first
    | exact this
    | exact this.symm
/-- the text of a value -/
def strOf : Value → Str
  | .str k _ => k
  | _ => ""
section
open PySem.W PySem.Calls
variable {P : Program} {w : World} {A : Around} {E : Value → Shared → Prop} {s : Shared}
theorem each_str : ∀ {vs : List Value}, (∀ v ∈ vs, ∃ k u, v = .str k u) → EachIs (fun v (z : Str) => ∃ u, v = .str z u) vs (vs.map strOf)
  | [], _ => .nil
  | v :: vs, h => by
    obtain ⟨k, u, rfl⟩ := h v List.mem_cons_self
    exact .cons ⟨u, rfl⟩ (each_str fun y hy => h y (List.mem_cons_of_mem _ hy))
/-- sorted(s), s a set of texts: a new list -/
theorem sorted_setTx {a : Addr} {l : List Str} {Q : Value → Shared → Prop} (R : SetT P w s.heap a l) (hh : A.handled = none) (hb : l.length < 1000) (hu : A.units + 64 < cLine)
    (h : ∀ s' p (out : List Value) (c : Nat), (∀ b o, s.heap.get? b = some o → s'.heap.get? b = some o) → s'.gens = s.gens → s'.os = s.os → s.heap.objs.size ≤ p → s'.heap.get? p = some (seqObj "list" out.toArray c) →
      EachIs (fun v (z : Str) => ∃ u, v = .str z u) out (srt l) → Q (.ref p) s') :
    wpAny (model P w) A (call (.builtin "sorted") [.ref a]) Q E s := by
  obtain ⟨⟨es, ep, t⟩, ho, F, nd, ri, led⟩ := R
  have hsz : es.size = l.length := F.sz
  have hsb : es.size < scanBound := by
    have : (1000 : Nat) < scanBound := by unfold scanBound; decide
    omega
  refine Calls.call_function_entry kind_sorted plain_sorted entry_sorted (args_sorted1 _) ?_
  unfold Builtin.«sorted»
  refine wpAny_bind (m := checkCount "sorted" 1 1 _) (wpAny_pure ?_)
  refine wpAny_bind (collect_set (A := A.in1) hh ⟨_, ho, rfl, rfl⟩ F.fit hsb ri led fun s1 vs k1 hz g1 o1 pm => ?_)
  have isStr : ∀ v ∈ vs, ∃ k u, v = .str k u := fun v hv => by
    obtain ⟨e, he, rfl⟩ := List.mem_map.mp (pm.mem_iff.mp hv)
    obtain ⟨⟨k, hk, _⟩, _⟩ := F.el e he
    have hk' : Value.isStrOf k e.2 = true := hk
    cases hv2 : e.2 with
    | str z u => exact ⟨z, u, rfl⟩
    | _ =>
      rw [hv2] at hk'
      cases hk'
  have hvl : vs.length = l.length := by rw [pm.length_eq, List.length_map, Array.length_toList]; exact hsz
  have pl : (vs.map strOf).Perm l := perm_of_same nd (fun z hz => by
    obtain ⟨e, he, hie⟩ := (F.mem z).mp hz
    have hv := pm.mem_iff.mpr (List.mem_map_of_mem he)
    obtain ⟨k, u, hk⟩ := isStr e.2 hv
    rw [hk] at hie hv
    have : z = k := by
      have h2 : Value.isStrOf z (.str k u) = true := hie
      exact (isStr_eq h2)
    rw [this]
    exact List.mem_map_of_mem (f := strOf) hv) (by rw [List.length_map, hvl]; exact Nat.le_refl _)
  have hlL : vs.length ≤ sizeLine := by rw [hvl]; exact Evl.sz_of (by omega)
  refine wpAny_bind (wpAny_newList ?_ hlL)
  have hoL : (s1.heap.push (seqObj "list" vs.toArray 0)).get? s1.heap.objs.size = some (seqObj "list" vs.toArray 0) := Heap.get?_push_size _ rfl
  have e := each_str isStr
  have er : ∀ h0 : Heap, EachIs (fun v (z : Str) => ∃ as, Reads h0 v (PyData.str z) as) vs (vs.map strOf) := fun h0 => e.mono fun v z ⟨u, hv⟩ => ⟨[], by rw [hv]; exact .str z u⟩
  refine wpAny_bind (wpAny_holding (wpAny_call_entry_kw slot_list_sort ⟨_, hoL, rfl⟩ entry_list_sort ?_ (args_list_sort _)))
  refine list_sort_vals (s := { s1 with heap := s1.heap.push (seqObj "list" vs.toArray 0) }) hoL (SortsAt.data (each_map (R := fun v d => ∃ as, Reads (sortingHeap (s1.heap.push (seqObj "list" vs.toArray 0)) s1.heap.objs.size vs) v d as) PyData.str (er _)) (AllAlike.of fun _ _ => rfl) (Sortable.others fun _ => ⟨(by intro h; cases h), (by intro _ h; cases h)⟩) (bound_map fun z hz => ?_)) hlL ?_
  · show A.units + 2 + (PyData.str z).depth < cLine
    simp only [PyData.depth]
    omega
  · refine ⟨.none, rfl, ?_⟩
    obtain ⟨c, hc⟩ := sortedHeap_at (vs := vs) (out := (sortVals (dataKind (sortingHeap (s1.heap.push (seqObj "list" vs.toArray 0)) s1.heap.objs.size vs) ((vs.map strOf).map PyData.str)) false vs vs).toArray) hoL
    refine wpAny_pure ⟨_, rfl, h _ s1.heap.objs.size _ c (fun b u e2 => ?_) g1 o1 hz hc ?_⟩
    · have q := k1 b u e2
      have lt := Heap.lt_size q
      show (sortedHeap (s1.heap.push (seqObj "list" vs.toArray 0)) s1.heap.objs.size vs _).get? b = some u
      rw [sortedHeap_old (Nat.ne_of_lt lt) (by rw [size_push']; exact Nat.lt_succ_of_lt lt)]
      exact Heap.get?_push_of_some _ q
    · rw [← srt_congr pl]
      exact sortVals_data false e (er _) (AllAlike.of fun _ _ => rfl)
end
end Lw

namespace Lw
open PySem PySem.Spec PyProof.Rows L2
/-! ### sets of texts, over the layer -/
def SetTO (P : Program) (w : World) (a : Addr) (l : List Str) : HO := .ext fun h => SetT P w h a l
def rSetTx (K : PySem.W.Frag) (P : Program) (w : World) : List V → Hp → VK → Prop := fun vs H Q => ∃ (p : Addr) (ws : List Str), vs = [.ref p] ∧ SqL K H p (ws.map V.str) ∧ ws.length < 1000 ∧ ∀ a l, H a = none → (∀ z, z ∈ l ↔ z ∈ ws) → l.Nodup → Q (.ref a) (upd H a (SetTO P w a l))
def rSortTx (P : Program) (w : World) : List V → Hp → VK → Prop := fun vs H Q => ∃ (a : Addr) (l : List Str), vs = [.ref a] ∧ H a = some (SetTO P w a l) ∧ l.length < 1000 ∧ ∀ p, H p = none → Q (.ref p) (upd H p (.lst ((srt l).map V.str)))
section
variable {X : Cx}
theorem SetT.nodup {P : Program} {w : World} {h : Heap} {a : Addr} {l : List Str} (R : SetT P w h a l) : l.Nodup := by
  obtain ⟨D, _, _, nd, _⟩ := R
  exact nd
theorem setTO_ok {P : Program} {w : World} {H : Hp} {h : Heap} {a : Addr} {l : List Str} (R : SetT P w h a l) : ObjOk P w H h a (SetTO P w a l) := by
  obtain ⟨D, h1, r⟩ := id R
  exact ⟨R, ⟨_, h1⟩, fun h2 h3 q k => SetT.at k q⟩
theorem setTO_get {pins : List (Addr × Obj)} {σ : L2.St} {H : Hp} {s : Shared} {a : Addr} {l : List Str} (I : L2.Inv X pins σ H s) (ha : H a = some (SetTO X.prog X.w a l)) : SetT X.prog X.w s.heap a l := by
  have x : ObjOk X.prog X.w H s.heap a (.ext fun h => SetT X.prog X.w h a l) := I.hok a _ ha
  exact x.1
theorem cr_setTx (hc : X.calm = true) : CallR X (.type "set") (rSetTx X.K X.prog X.w) := by
  intro pins s σ H vs us Q I r h
  obtain ⟨p, ws, rfl, hq, hl, q⟩ := h
  obtain ⟨u, rfl, rx⟩ := vals1 r
  cases rx
  obtain ⟨its, rv, tp, hz⟩ := I.list hq
  have hn : its.length = ws.length := by rw [← rv.length, List.length_map]
  refine call_setTx (I.ok.hd hc) tp.isList (ws := ws) (by rw [List.size_toArray]; exact hn) (by unfold scanBound; omega) (fun i v hv => ?_) fun h' tk l hS hm hc' kk => ?_
  · have hv' : its[i]? = some v := by simpa using hv
    have hi : i < ws.length := by
      rw [← hn]
      exact (List.getElem?_eq_some_iff.mp hv').1
    obtain ⟨v2, e2, r2⟩ := rv.get (i := i) (x := .str ws[i]) (by rw [List.getElem?_map, List.getElem?_eq_getElem hi]; rfl)
    rw [hv'] at e2
    cases e2
    obtain ⟨t, rfl⟩ := r2
    exact ⟨ws[i], t, List.getElem?_eq_getElem hi, rfl⟩
  · exact ⟨.ref _, _, I.laid (t' := tk) (o := SetTO X.prog X.w s.heap.objs.size l) (fun b o e => kk b o e) (Nat.le_refl _) (setTO_ok hS), rfl, q _ l (I.hok.fresh (Nat.le_refl _)) hm hS.nodup⟩
theorem vals_each : ∀ {out : List Value} {ws : List Str}, PySem.W.EachIs (fun v (z : Str) => ∃ u, v = .str z u) out ws → Vals (ws.map V.str) out
  | _, _, .nil => .nil
  | _, _, .cons h t => .cons h (vals_each t)
theorem cr_sortTx (hc : X.calm = true) (hu : X.A.units + 64 < cLine) : CallR X (.builtin "sorted") (rSortTx X.prog X.w) := by
  intro pins s σ H vs us Q I r h
  obtain ⟨a, l, rfl, ha, hl, q⟩ := h
  obtain ⟨u, rfl, rx⟩ := vals1 r
  cases rx
  refine sorted_setTx (setTO_get I ha) (I.ok.hd hc) hl hu fun s' p out c k g o hp hat he => ?_
  have rv := vals_each he
  have hz : ((srt l).map V.str).length ≤ sizeLine := by
    rw [List.length_map, srt_len]
    exact Evl.sz_of (by omega)
  have np : H p = none := I.hok.fresh hp
  have J : Inv X pins σ (upd H p (.lst ((srt l).map V.str))) { s with heap := s'.heap, gens := s'.gens, drawn := s'.drawn, toks := s'.toks } :=
    I.call (ch := []) (Un.laid k hp np) (I.hok.laid k hp ⟨hz, out, c, rv, hat⟩) (by rw [g]; exact I.bare) (fun _ z => nomatch z)
  have e : s' = { s with heap := s'.heap, gens := s'.gens, drawn := s'.drawn, toks := s'.toks } := by
    cases s'
    cases s
    cases o
    rfl
  rw [e]
  exact ⟨.ref p, _, J, rfl, q p np⟩
end
end Lw

namespace Lw
open PySem PySem.Spec PyProof.Rows L2
/-! ### without doubles, in order -/
def dd : List Str → List Str
  | [] => []
  | x :: r => if x ∈ r then dd r else x :: dd r
theorem dd_mem : ∀ {l : List Str} {z : Str}, z ∈ dd l ↔ z ∈ l
  | [], _ => Iff.rfl
  | x :: r, z => by
    unfold dd
    split
    · rw [dd_mem, List.mem_cons]
      exact ⟨.inr, fun h => h.elim (fun e => by rw [e]; assumption) id⟩
    · rw [List.mem_cons, List.mem_cons, dd_mem]
theorem dd_nodup : ∀ l : List Str, (dd l).Nodup
  | [] => List.nodup_nil
  | x :: r => by
    unfold dd
    split
    · exact dd_nodup r
    · rename_i h
      exact List.nodup_cons.mpr ⟨fun k => h (dd_mem.mp k), dd_nodup r⟩
def sd (l : List Str) : List Str := srt (dd l)
theorem len_le_of {l : List Str} (nd : l.Nodup) : ∀ {b : List Str}, (∀ z ∈ l, z ∈ b) → l.length ≤ b.length := fun {b} h => by
  induction l generalizing b with
  | nil => exact Nat.zero_le _
  | cons x r ih =>
    obtain ⟨hx, nd'⟩ := List.nodup_cons.mp nd
    have hm := h x List.mem_cons_self
    have := ih nd' (b := b.erase x) fun z hz => (List.mem_erase_of_ne fun e => hx (by rw [← e]; exact hz)).mpr (h z (List.mem_cons_of_mem _ hz))
    rw [List.length_erase_of_mem hm] at this
    have hp : 0 < b.length := List.length_pos_of_mem hm
    rw [List.length_cons]
    omega
theorem sd_of {l ws : List Str} (nd : l.Nodup) (h : ∀ z, z ∈ l ↔ z ∈ ws) : srt l = sd ws :=
  srt_congr (perm_of_same (dd_nodup ws) (fun z hz => (h z).mpr (dd_mem.mp hz)) (len_le_of nd fun z hz => dd_mem.mpr ((h z).mp hz)))
/-! ### the parts of a split text -/
theorem joinL_part {S : List Nat} : ∀ {ps : List (List Nat)} {p : List Nat}, p ∈ ps → p.length ≤ (TL.joinL S ps).length ∧ ∀ c ∈ p, c ∈ TL.joinL S ps
  | [], _, h => by cases h
  | [q], p, h => by
    rw [List.mem_singleton.mp h]
    exact ⟨Nat.le_refl _, fun c hc => hc⟩
  | q :: r :: t, p, h => by
    show p.length ≤ (q ++ (S ++ TL.joinL S (r :: t))).length ∧ ∀ c ∈ p, c ∈ q ++ (S ++ TL.joinL S (r :: t))
    rcases List.mem_cons.mp h with rfl | h
    · refine ⟨by rw [List.length_append]; omega, fun c hc => List.mem_append.mpr (.inl hc)⟩
    · obtain ⟨h1, h2⟩ := joinL_part (S := S) h
      refine ⟨by rw [List.length_append, List.length_append]; omega, fun c hc => List.mem_append.mpr (.inr (List.mem_append.mpr (.inr (h2 c hc))))⟩
theorem joinL_len {S : List Nat} (hS : 0 < S.length) : ∀ ps : List (List Nat), ps.length ≤ (TL.joinL S ps).length + 1
  | [] => Nat.zero_le _
  | [q] => by
    show 1 ≤ q.length + 1
    omega
  | q :: r :: t => by
    have := joinL_len hS (r :: t)
    show (q :: r :: t).length ≤ (q ++ (S ++ TL.joinL S (r :: t))).length + 1
    rw [List.length_append, List.length_append, List.length_cons]
    omega
theorem split_join_tl (x : Str) : TL.joinL [32] ((Txt.split x " ").map TL.tl) = x.cps.toList := by
  have e := StrLaws.join_split x " "
  have e2 := TL.tl_join " " (Txt.split x " ")
  rw [e] at e2
  rw [show TL.tl (" " : Str) = [32] by decide +kernel] at e2
  exact e2.symm
theorem split_part {x p : Str} (h : p ∈ Txt.split x " ") : p.length ≤ x.length ∧ ∀ c ∈ p.cps.toList, c ∈ x.cps.toList := by
  have := joinL_part (S := [32]) (List.mem_map_of_mem (f := TL.tl) h)
  rw [split_join_tl] at this
  refine ⟨?_, this.2⟩
  rw [len_tl, len_tl]
  exact this.1
theorem split_len (x : Str) : (Txt.split x " ").length ≤ x.length + 1 := by
  have := joinL_len (S := [32]) (by decide) ((Txt.split x " ").map TL.tl)
  rw [split_join_tl, List.length_map] at this
  rw [len_tl]
  exact this
theorem spl_ne : ∀ (S : List Nat) (l : List Nat) (k : Nat) (acc : List Nat), TL.spl S k acc l ≠ []
  | S, [], k, acc => by
    cases k <;> simp [TL.spl]
  | S, c :: r, 0, acc => by
    unfold TL.spl
    split
    · simp
    · exact spl_ne S r 0 _
  | S, c :: r, k + 1, acc => by
    unfold TL.spl
    exact spl_ne S r k acc
theorem split_ne (x : Str) : 0 < (Txt.split x " ").length := by
  refine List.length_pos_iff.mpr fun e => ?_
  have h := TL.split_spl x " " (by decide +kernel) (TL.kind_ok (by decide +kernel))
  rw [e] at h
  exact spl_ne _ _ _ _ h.symm
theorem join_split1 (x : Str) : Txt.join " " (Txt.split x " ") = x := by
  rw [TL.join_eq]
  exact StrLaws.join_split x " "
section
open Evl
variable {K : PySem.W.Frag} {P : Program} {w : World} {σ : L2.St} {H : Hp} {te : TE}
theorem el_sortset {p : Addr} {ws : List Str} (h : Ev te σ H (.ref p)) (hx : SqL K H p (ws.map V.str)) (hl : ws.length < 1000) : EvL (tCB (rSortTx P w) (tCons (tCB (rSetTx K P w) (tCons te tNil)) tNil)) σ H ((sd ws).map V.str) := fun H1 e Q q =>
  h H1 e _ fun H2 e2 => ⟨p, ws, rfl, ex_l (e.trans e2) hx, hl, fun a l na hm nd => by
    have hc : l.length ≤ ws.length := len_le_of nd fun z hz => (hm z).mp hz
    refine ⟨a, l, rfl, upd_same, by omega, fun r nr => ?_⟩
    rw [sd_of nd hm]
    exact q r _ (fresh_back (e2.trans (Ex.new na)) nr) ((e2.trans (Ex.new na)).trans (Ex.new nr)) upd_same⟩
end
end Lw

namespace Lw
open PySem PySem.Spec PyProof.Rows L2
/-! ### joined texts: how long, of which signs -/
def Wd (ps : List Str) : Nat := (ps.map (·.length)).sum + ps.length
theorem wd_append (a b : List Str) : Wd (a ++ b) = Wd a + Wd b := by
  unfold Wd
  rw [List.map_append, List.sum_append, List.length_append]
  omega
theorem wd_take (k : Nat) (a : List Str) : Wd (a.take k) ≤ Wd a := by
  have := wd_append (a.take k) (a.drop k)
  rw [List.take_append_drop] at this
  omega
theorem wd_drop (k : Nat) (a : List Str) : Wd (a.drop k) ≤ Wd a := by
  have := wd_append (a.take k) (a.drop k)
  rw [List.take_append_drop] at this
  omega
theorem wd_rev (a : List Str) : Wd a.reverse = Wd a := by
  unfold Wd
  rw [List.map_reverse, List.sum_reverse, List.length_reverse]
theorem joinL_wd : ∀ ps : List (List Nat), (TL.joinL [32] ps).length ≤ (ps.map (·.length)).sum + ps.length ∧ (ps.map (·.length)).sum + ps.length ≤ (TL.joinL [32] ps).length + 1
  | [] => ⟨Nat.le_refl _, Nat.zero_le _⟩
  | [q] => by
    show q.length ≤ ([q].map (·.length)).sum + 1 ∧ ([q].map (·.length)).sum + 1 ≤ q.length + 1
    simp
  | q :: r :: t => by
    have ih := joinL_wd (r :: t)
    have e : (TL.joinL [32] (q :: r :: t)).length = q.length + (1 + (TL.joinL [32] (r :: t)).length) := by
      show (q ++ ([32] ++ TL.joinL [32] (r :: t))).length = _
      rw [List.length_append, List.length_append]
      rfl
    rw [e, List.map_cons, List.sum_cons, List.length_cons]
    omega
theorem joinL_mem : ∀ {ps : List (List Nat)} {c : Nat}, c ∈ TL.joinL [32] ps → c = 32 ∨ ∃ p ∈ ps, c ∈ p
  | [], _, h => by cases h
  | [q], c, h => .inr ⟨q, List.mem_cons_self, h⟩
  | q :: r :: t, c, h => by
    have h' : c ∈ q ++ ([32] ++ TL.joinL [32] (r :: t)) := h
    rcases List.mem_append.mp h' with h | h
    · exact .inr ⟨q, List.mem_cons_self, h⟩
    · rcases List.mem_append.mp h with h | h
      · exact .inl (List.mem_singleton.mp h)
      · rcases joinL_mem h with h | ⟨p, hp, hc⟩
        · exact .inl h
        · exact .inr ⟨p, List.mem_cons_of_mem _ hp, hc⟩
theorem join_codes (ps : List Str) : (Txt.join " " ps).cps.toList = TL.joinL [32] (ps.map TL.tl) := by
  rw [TL.join_eq]
  have e2 := TL.tl_join " " ps
  rw [show TL.tl (" " : Str) = [32] by decide +kernel] at e2
  exact e2
theorem wd_tl (ps : List Str) : ((ps.map TL.tl).map (·.length)).sum + (ps.map TL.tl).length = Wd ps := by
  unfold Wd
  rw [List.length_map, List.map_map]
  have e : ps.map ((fun x : List Nat => x.length) ∘ TL.tl) = ps.map (·.length) := List.map_congr_left fun z _ => (len_tl z).symm
  rw [e]
theorem join_wd (ps : List Str) : (Txt.join " " ps).length ≤ Wd ps := by
  rw [len_tl, join_codes, ← wd_tl]
  exact (joinL_wd _).1
theorem split_wd (x : Str) : Wd (Txt.split x " ") ≤ x.length + 1 := by
  rw [← wd_tl, len_tl, ← split_join_tl]
  exact (joinL_wd _).2
theorem join_sok {ps : List Str} (h : ∀ p ∈ ps, SOk p) : SOk (Txt.join " " ps) := fun c hc => by
  rw [join_codes] at hc
  rcases joinL_mem hc with rfl | ⟨p, hp, hc⟩
  · decide
  · obtain ⟨q, hq, rfl⟩ := List.mem_map.mp hp
    exact h q hq c hc
theorem cutV_from (xs : List V) (k : Nat) : cutV xs (some (k : Int)) none = xs.drop k := by
  unfold cutV HT.sIx
  have : ¬ ((k : Int) < 0) := by omega
  simp only [this, if_false]
  rw [show (k : Int).toNat = k from rfl]
  rcases Nat.lt_or_ge k xs.length with h | h
  · rw [Nat.min_eq_left (Nat.le_of_lt h), List.take_of_length_le (by rw [List.length_drop]; exact Nat.le_refl _)]
  · rw [Nat.min_eq_right h, List.drop_length, List.take_nil, List.drop_eq_nil_of_le h]
section
open Evl
variable {K : PySem.W.Frag} {σ : L2.St} {H : Hp} {te ta tb : TE} {xs ys : List V}
theorem el_cat (h : EvL ta σ H xs) (k : EvL tb σ H ys) (hz : xs.length + ys.length ≤ 100000) : EvL (tOp rCat ta tb) σ H (xs ++ ys) := fun H1 e Q q =>
  h H1 e _ fun p H2 np e2 hp => k H2 (e.trans e2) _ fun r H3 nr e3 hr => ⟨p, r, xs, ys, rfl, rfl, e3 _ _ hp, hr, sz_of hz, fun t nt => q t _ (fresh_back (e2.trans e3) nt) ((e2.trans e3).trans (Ex.new nt)) upd_same⟩
theorem el_rev (h : EvL te σ H xs) : EvL (tRevL K te) σ H xs.reverse := fun H1 e Q q =>
  h H1 e _ fun p H2 np e2 hp => ⟨p, xs, rfl, sq_of hp, fun t nt => q t _ (fresh_back e2 nt) (e2.trans (Ex.new nt)) upd_same⟩
theorem ev_joinL {sep : Str} {ws : List Str} (h : EvL te σ H (ws.map V.str)) (hz : (ws.map (·.length)).sum + ws.length * sep.length ≤ 16777216) :
    Ev (tM1 (fun x xs H Q => ∃ a p, ∃ ys : List Str, x = .str a ∧ xs = [.ref p] ∧ (SqL K H p (ys.map V.str) ∨ SqT K H p (ys.map V.str)) ∧ (ys.map (·.length)).sum + ys.length * a.length ≤ 16777216 ∧ Q (.str (Txt.join a ys)) H) (tC (.str sep)) te) σ H (.str (Txt.join sep ws)) := fun H1 e Q q =>
  ⟨⟨sep, rfl⟩, h H1 e _ fun p H2 np e2 hp => ⟨sep, p, ws, rfl, rfl, .inl (sq_of hp), hz, q H2 e2⟩⟩
end
end Lw

namespace Lw
open PySem PySem.Spec PyProof.Rows L2
/-! ### errors as values: C(x), e.f, isinstance(e, C) -/
def tMkV (C : Addr) (sp : Sp) (dvs : List V) (ta : TA) : TE := fun σ H Q => ta σ H fun vs H1 => vs.length ≤ 1000 ∧ ∀ a, H1 a = none → sp (.ref a :: (vs ++ dvs)) (upd H1 a (exo a C none)) (fun v H2 => v = .non ∧ Q (.ref a) H2) (fun _ _ _ => False)
section
variable {X : Cx} {e : Expr} {es : List Expr} {ta : TA} {p pos : Pos}
theorem pe_oex {CX : CXT} {x : Str} {C fI : Addr} {k : Nat} {fd : FuncData} {ps : List Str} {sp : Sp} {ds : List Value} {dvs : List V} (T : OexC X.K C) (iC : PySem.W.findIn X.K (.ref C) "__init__" = some (some (.ref fI))) (tI : PySem.W.typeIn X.K (.ref fI) = some (.type "function"))
    (F1 : FnOk X.prog X.w X.K X.mg X.base CX k fI fd ps sp) (hr : Room (k + 1) X.A) (hb : Binds X.K fd ps ds) (hd : Vals dvs ds) (hx : Passes CX X (fun _ _ _ => False)) (hg : Gl X x) (hm : X.mg x = some (.ref C)) (ha : PA X (e :: es) ta)
    (hdb : (x == ("__debug__" : Str)) = false := by decide) (he : starEach (e :: es) X.env = (false, eval e X.env) :: starEach es X.env := by rfl) (hpl : (backTo pos (starEach es X.env)).any (·.1) = false := by rfl) :
    PE X (.Call (.Name x p) (e :: es) [] pos) (tMkV C sp dvs ta) := by
  refine ⟨fun pins s σ H Q I h => ?_⟩
  obtain ⟨nm, q, N, bs, bm, sn, sub, ab, col, dd, k0, k1, k2, k3, k5, hC, hbm⟩ := T.cls
  refine wpAny_Call_Name_kw (ld_glob I hg hm ?_ hdb)
  refine PySem.W.callWith_K (h₀ := X.base) I.ok.mod.kin T.kC (thn (ha.run pos pins s σ H _ I h) fun us s1 ⟨vs, H1, I1, r1, hz, q1⟩ => ⟨I1.kIn, ?_⟩) he hpl
  show wpAny _ _ (call (.ref C) us) _ _ _
  obtain ⟨hp, g, dr, tk, os⟩ := s1
  have up1 : hp.objs.size ≤ hp.objs.size + 1 := Nat.le_succ _
  have hq := q1 (hp.objs.size + 1) (I1.hok.fresh up1)
  have old : ∀ b o, hp.get? b = some o → ((hp.push (PySem.W.kdv_tup us)).push (PySem.HandSPX.excO C hp.objs.size)).get? b = some o := fun b o e => Heap.get?_push_of_some _ (Heap.get?_push_of_some _ e)
  have here : ((hp.push (PySem.W.kdv_tup us)).push (PySem.HandSPX.excO C hp.objs.size)).get? (hp.objs.size + 1) = some (PySem.HandSPX.excO C hp.objs.size) := by heap_get
  have I2 : Inv X pins σ (upd H1 (hp.objs.size + 1) (exo (hp.objs.size + 1) C none)) ⟨(hp.push (PySem.W.kdv_tup us)).push (PySem.HandSPX.excO C hp.objs.size), g, dr, tk, os⟩ :=
    I1.laid (t' := tk) (a := hp.objs.size + 1) (o := exo (hp.objs.size + 1) C none) (h' := (hp.push (PySem.W.kdv_tup us)).push (PySem.HandSPX.excO C hp.objs.size)) old up1 (exo_ok here)
  have r2 : Vals (V.ref (hp.objs.size + 1) :: (vs ++ dvs)) (Value.ref (hp.objs.size + 1) :: (us ++ ds)) := .cons rfl (r1.append hd)
  have hl : (Value.ref (hp.objs.size + 1) :: us ++ ds).length = ps.length := by
    have e := r2.length
    rw [F1.len _ _ _ _ hq] at e
    exact e.symm
  have few : us.length ≤ sizeLine := by
    rw [← Paired.length r1, sizeLine_eq]
    omega
  refine wpAny_call (PySem.HandSPX.call_own F.excBase_ValueError (fun Y => PySem.HandSPX.refsVE_contains Y bm hbm) (I1.kIn _ _ hC) (PySem.W.looks_findIn I1.kIn iC) (fun self => PySem.W.bind_fn I1.kIn self tI) few
    (codeAny_mono (F1.run _ X.stack _ _ ⟨Value.ref (hp.objs.size + 1) :: us, []⟩ (Value.ref (hp.objs.size + 1) :: (us ++ ds)) _ _ (fun _ _ _ => False) (hr.make C us []) (I2.env0.make C us []) (hb _ (Value.ref (hp.objs.size + 1) :: us) I2.kIn hl) r2 hq) fun r s' hq' => ?_))
  cases r with
  | error er => exact hx pins σ _ _ er s' I2 hq'
  | ok fl =>
    cases fl with
    | ret u =>
      obtain ⟨v, H2, os2, bare2, un2, hok2, rv, ev, q2⟩ := hq'
      subst ev
      exact ⟨rv, .ref (hp.objs.size + 1), H2, I2.call' (ch := []) os2 un2 hok2 bare2 (fun _ z => nomatch z), rfl, q2⟩
    | next => exact False.elim hq'
    | brk => exact False.elim hq'
    | cont => exact False.elim hq'
/-- e.f of a made error -/
def tXv (C : Addr) (f : Str) (te : TE) : TE := fun σ H Q => te σ H fun x H1 => ∃ (a dx : Addr) (fs : List (Str × V)) (v : V), x = .ref a ∧ H1 a = some (exo a C (some dx)) ∧ H1 dx = some (exd dx fs) ∧ fs.lookup f = some v ∧ Q v H1
theorem pe_xv {C : Addr} {te : TE} {n : Str} (T : XfC X.K C) (hno : PySem.W.findIn X.K (.ref C) n = some none) (he : PE X e te) (hb : attributeBase e n X.env (eval e X.env) = eval e X.env := by rfl) : PE X (.Attribute e n pos) (tXv C n te) := by
  refine ⟨fun pins s σ H Q I h => ?_⟩
  refine attr_of hb (thn (he.run pins s σ H _ I h) fun u s1 hh => ?_)
  obtain ⟨x, H1, I1, rx, a, dx, fs, v, rfl, ha, hd, l, q⟩ := hh
  obtain rfl : u = Value.ref a := rx
  obtain ⟨t1, ho⟩ := exo_at I1.hok ha
  obtain ⟨mA, hns, hr⟩ := exd_at I1.hok hd
  obtain ⟨od, hod, hl⟩ := lookIn_ns hns
  obtain ⟨u, hu, ru⟩ := RelO.some_of (v := v) (o := mA n) (by rw [← l]; exact hr n)
  have J : PySem.W.InstAt s1.heap a { cls := .ref C, dict := some dx, data := .fields #[.ref t1, .none, .none, .none, .bool false, .none] } C (some od) := ⟨ho, rfl, rfl, hod⟩
  exact HandSPX.exc_get I1.kIn J T.ga T.gg T.exC (PySem.W.findObj_own T.hdC hno rfl (by rw [hl, hu])) (handed_of ru) ⟨v, H1, I1.tok _, ru, q⟩
/-- isinstance(e, c), e a made error -/
def rIsV (K : PySem.W.Frag) : List V → Hp → VK → Prop := fun xs H Q => ∃ (a D dx : Addr) (fs : List (Str × V)) (c : V) (cv : Value) (b : Bool), IsC K D ∧ H a = some (exo a D (some dx)) ∧ H dx = some (exd dx fs) ∧ xs = [.ref a, c] ∧ ClsV c cv ∧ PySem.W.kitOne K (.ref D) cv = some b ∧ Q (.bl b) H
theorem call_isV : CallR X (.builtin "isinstance") (rIsV X.K) := by
  intro pins s σ H xs us Q I r h
  obtain ⟨a, D, dx, fs, c, cv, b, C, ha, hd, rfl, hcv, e, q⟩ := h
  cases r with
  | cons rx rr =>
    cases rr with
    | cons rt rr =>
      cases rr
      cases rx
      have ec := hcv.eq rt
      subst ec
      obtain ⟨t1, ho⟩ := exo_at I.hok ha
      obtain ⟨mA, hns, _⟩ := exd_at I.hok hd
      obtain ⟨od, hod, _⟩ := lookIn_ns hns
      obtain ⟨gt, hgt⟩ := C.gt
      have J : PySem.W.InstAt s.heap a { cls := .ref D, dict := some dx, data := .fields #[.ref t1, .none, .none, .none, .bool false, .none] } D (some od) := ⟨ho, rfl, rfl, hod⟩
      exact PySem.W.kia_one (PySem.W.kitx_exc C.cl C.ga hgt C.sb C.ca C.sn C.tk C.mo) I.kIn J e (by cases hcv <;> exact fun z => nomatch z) fun tk => ⟨.bl b, H, I.kept (t' := tk) fun _ _ z => z, rfl, q⟩
end
end Lw

namespace Lw
open PySem PySem.Spec PyProof.Rows L2
/-! ### the facts of one class of errors, told at once -/
theorem erc_mk {P : Program} {w : World} {K : PySem.W.Frag} {hh : Heap} {mg : Str → Option Value} (X : K.In hh) (G : hh.Ns mainGlobals mg) {c f qn : Str} (st : Stmt)
    (ok : ∀ {fI : Addr} {fd : FuncData} {C : Addr} {base : Heap}, Fun K "__init__" qn st fI fd → OexC K C → PySem.W.findIn K (.ref C) f = some none → FnOk P w K mg base CX0 1 fI fd ["self", f] (sp_init1 K C f))
    (bi : ∀ {fI : Addr} {fd : FuncData}, Fun K "__init__" qn st fI fd → Binds K fd ["self", f] [])
    {C I N E : Addr} {nm q : Str} {bs sub : List Value} {sn : List Str} {ab : Bool} {col : Option Bool} {dd : Option Addr} {m0 m1 m2 m3 m5 : Option Value} {od an : Option Addr} {sl : Array (Option Value)} {oc kV dc pm cd ct : Value}
    (aC : PySem.W.nsIn K mainGlobals c = some (some (.ref C)))
    (xL : K.lookup C = some (excClassObj nm q C N bs (.ref E :: [.type "ValueError", .type "Exception", .type "BaseException", .type "object"]) true sn sub ab col dd m0 m1 m2 m3 m5 "ValueError.__new__"))
    (sa : PySem.W.findIn K (.ref C) "__setattr__" = some (some (.builtin "object.__setattr__"))) (ga : PySem.W.findIn K (.ref C) "__getattribute__" = some (some (.builtin "BaseException.__getattribute__"))) (gg : PySem.W.findIn K (.ref C) "__getattr__" = some none) (nb : PySem.W.findIn K (.ref C) f = some none)
    (iC : PySem.W.findIn K (.ref C) "__init__" = some (some (.ref I))) (tI : PySem.W.typeIn K (.ref I) = some (.type "function")) (kC : PySem.W.keepIn K (.ref C) = true) (eC : PySem.W.subIn K (.ref C) (.type "BaseException") = some true) (tC : PySem.W.typeIn K (.ref C) = some (.type "type")) (hC : PySem.W.hasDictIn K C = true)
    (cA : PySem.W.findIn K (.ref C) "__class__" = some (some (.builtin "object.__class__"))) (mo : PySem.W.mroIn K C (.type "object") = some true)
    (lI : K.lookup I = some ⟨oc, od, .func (PySem.W.fnOf "__init__" qn (defArgs st) (defBody st) (defScope st) .none kV dc pm an cd ct), sl⟩) (dI : PySem.W.codeIn K cd qn = true) (kI : PySem.W.keepIn K (.ref I) = true)
    (gsn : PySem.W.specialIn K (.builtin "object.__class__") "__get__" = some (some (.builtin "getset_descriptor.__get__"))) (gtk : PySem.W.takesIn K (.builtin "object.__class__") = some true) :
    ∀ base : Heap, ErC P w K mg base c f C I (PySem.W.fnOf "__init__" qn (defArgs st) (defBody st) (defScope st) .none kV dc pm an cd ct) := fun base => by
  have O : OexC K C := ⟨⟨_, _, _, _, _, _, _, _, _, _, _, _, _, _, _, xL, by first | rfl | decide +kernel⟩, sa, eC, tC, kC⟩
  have FI := fun_mk (st := st) lI dI kI
  exact ⟨O, ⟨ga, gg, eC, hC⟩, ⟨by unfold PySem.W.clsIn; rw [xL] <;> rfl, ga, ⟨_, gg⟩, eC, cA, gsn, gtk, mo⟩, iC, tI, nb, PySem.W.mg_of X G aC, ok FI O nb, bi FI⟩
end Lw

/-! ### an own error made with keywords: the class is called as type.__call__ does, its keywords go on to __init__ -/
namespace PySem
namespace HandSPX
open Builtin Builtin.ObjectAttr
section
variable {prog : Program} {w : World} {A : Around} {E : Value → Shared → Prop} {R : Result → Shared → Prop} {h : Heap} {g : Array GenState} {d : Drawn} {t : Nat} {os : OsState} {kw : List (Str × Value)}
variable {nm q : Str} {C N : Addr} {bs bm bmB : List Value} {hdct : Bool} {sn : List Str} {sub : List Value} {ab : Bool} {col : Option Bool} {dd : Option Addr} {k0 k1 k2 k3 k5 : Option Value} {B newId initId : String}
theorem lw_in (hT : ∀ X : String, bm.contains (.type X) = bmB.contains (.type X)) {Y : String} {b : Bool} (e : bmB.contains (.type Y) = b) : (Value.ref C :: bm).contains (.type Y) = b := by
  rw [List.contains_cons, hT, e]; rfl
theorem lw_check (F : ExcBaseFacts B newId initId bmB) (hT : ∀ X : String, bm.contains (.type X) = bmB.contains (.type X)) {M : Model} {vs : List Value} {Q : Unit → Shared → Prop} (hC : h.get? C = some (excClassObj nm q C N bs bm hdct sn sub ab col dd k0 k1 k2 k3 k5 newId)) (hq : Q () ⟨h, g, d, t, os⟩) :
    wpAny M A (checkBuiltinCall newId ⟨.ref C :: vs, kw⟩) Q E ⟨h, g, d, t, os⟩ := by
  have c1 : (Value.ref C :: bm).contains (.type B) = true := lw_in hT F.hasB
  have c2 := F.noStar
  simp only [checkBuiltinCall, F.newKind, F.newSplit, F.newRow]
  iterate 60 (first | refine wpAny_loadPart_at hC ?_ | (refine wpAny_isSubtype_exc hC ?_; rw [c1]) | refine wpAny_staticBase_exc hC ?_ | refine wpAny_madeBy_exc hC ?_ | simp only [bne_self_eq_false, Bool.false_eq_true, if_false] | wp_step | skip)
  exact hq
theorem lw_new (F : ExcBaseFacts B newId initId bmB) (hT : ∀ X : String, bm.contains (.type X) = bmB.contains (.type X)) {vs : List Value} (hC : h.get? C = some (excClassObj nm q C N bs bm hdct sn sub ab col dd k0 k1 k2 k3 k5 newId))
    (hq : R (.ok (.ret (.ref (h.objs.size + 1)))) ⟨(h.push (W.kdv_tup vs)).push (excO C h.objs.size), g, d, t, os⟩) (hz : vs.length ≤ sizeLine) : codeAny (model prog w) A (.builtin newId ⟨.ref C :: vs, kw⟩) R ⟨h, g, d, t, os⟩ := by
  have c0 := F.ends
  have cB : (Value.ref C :: bm).contains (.type B) = true := lw_in hT F.hasB
  have cA : (Value.ref C :: bm).contains (.type "AttributeError") = false := lw_in hT F.noAttr
  have cN : (Value.ref C :: bm).contains (.type "NameError") = false := lw_in hT F.noName
  refine codeAny_builtinAt F.entry ?_
  unfold Builtin.«BaseException.__new__»
  refine wpAt_bind ?_
  show wpAt _ _ _ (stack >>= _) _ _ _
  refine wpAt_bind (wpAt_stack fun p below => wpAt_of_wpAny ?_)
  wp_walk
  refine wpAt_of_wpAny ?_
  rw [F.owner]
  iterate 200 (first | with_reducible refine wpAny_madeHere_exc F.canon hC ?_ | with_reducible refine wpAny_loadPart_at hC ?_ | (with_reducible refine wpAny_isSubtype_exc hC ?_; first | rw [cB] | rw [cA] | rw [cN]) | wp_step | skip)
  show R _ _
  rw [Heap.size_push]
  exact hq
end
end HandSPX
end PySem

namespace PySem
namespace HandSPX
open Builtin Builtin.ObjectAttr
section
variable {prog : Program} {w : World} {A : Around} {E : Value → Shared → Prop} {R : Result → Shared → Prop} {h : Heap} {g : Array GenState} {d : Drawn} {t : Nat} {os : OsState} {kw : List (Str × Value)}
variable {nm q : Str} {C N : Addr} {bs bm bmB : List Value} {hdct : Bool} {sn : List Str} {sub : List Value} {ab : Bool} {col : Option Bool} {dd : Option Addr} {k0 k1 k2 k3 k5 : Option Value} {B newId initId : String}
theorem lw_type_call (F : ExcBaseFacts B newId initId bmB) (hT : ∀ X : String, bm.contains (.type X) = bmB.contains (.type X)) {vs : List Value} {fI : Addr} {Q : Fin → Shared → Prop}
    (hC : h.get? C = some (excClassObj nm q C N bs bm hdct sn sub ab col dd k0 k1 k2 k3 k5 newId)) (hi : W.Looks (model prog w) h (typeLookup (.ref C) "__init__") (some (.ref fI))) (hb : ∀ self, W.Looks (model prog w) h (bindSpecial (.ref fI) self) (.ref fI, [self])) (hz : vs.length ≤ sizeLine)
    (hq : codeAny (model prog w) A (.call (.ref fI) ⟨.ref (h.objs.size + 1) :: vs, kw⟩) (fun r s' => match r with | .ok (.ret v) => v = .none ∧ Q (.done (.ret (.ref (h.objs.size + 1)))) s' | .ok _ => False | .error e => E e s') ⟨(h.push (W.kdv_tup vs)).push (excO C h.objs.size), g, d, t, os⟩) :
    wpAny (model prog w) A (Builtin.«type.__call__» ⟨.ref C :: vs, kw⟩) Q E ⟨h, g, d, t, os⟩ := by
  iterate 100 (first | with_reducible refine wpAny_loadPart_at hC ?_ | with_reducible refine wpAny_madeBy_exc hC ?_ | wp_step | skip)
  refine codeAny_call_builtin_code (Code.quiet_builtin _ F.quiet) (lw_check F hT hC ?_)
  refine lw_new F hT hC ?_ hz
  show wpAny _ _ _ _ _ _
  have up : ∀ b o, h.get? b = some o → ((h.push (W.kdv_tup vs)).push (excO C h.objs.size)).get? b = some o := fun b o e => Heap.get?_push_of_some _ (Heap.get?_push_of_some _ e)
  have hC2 := up _ _ hC
  have hx : ((h.push (W.kdv_tup vs)).push (excO C h.objs.size)).get? (h.objs.size + 1) = some (excO C h.objs.size) := by heap_get
  have cc : (Value.ref C :: bm).contains (.ref C) = true := by simp
  have li := hi.keeps up
  have lb := (hb (.ref (h.objs.size + 1))).keeps up
  unfold isInstance
  iterate 100 (first | with_reducible refine wpAny_loadPart_at hx ?_ | (with_reducible refine wpAny_isSubtype_exc hC2 ?_; rw [cc]) | wp_step | skip)
  show wpAny _ _ (typeLookup (.ref C) _) _ _ _
  refine li.at ?_
  refine wpAny_holding (wpAny_bind (lb.at ?_))
  refine wpAny_bind (wpAny_call (codeAny_mono hq fun r s' z => ?_))
  rcases r with e | (_ | v | _ | _)
  all_goals first
    | exact z
    | exact z.elim
    | (obtain ⟨rfl, z⟩ := z; first | exact wpAny_pure (wpAny_pure z) | (wp_walk; exact z))
    | (have y := z.2; have y1 := z.1; subst y1; first | exact wpAny_pure (wpAny_pure y) | (wp_walk; exact y))
theorem lw_check_type {M : Model} {vs : List Value} {Q : Unit → Shared → Prop} (hC : h.get? C = some (excClassObj nm q C N bs bm hdct sn sub ab col dd k0 k1 k2 k3 k5 newId)) (hq : Q () ⟨h, g, d, t, os⟩) : wpAny M A (checkBuiltinCall "type.__call__" ⟨.ref C :: vs, kw⟩) Q E ⟨h, g, d, t, os⟩ := by
  have t1 := tc_sub
  have t2 : (⟨h, g, d, t, os⟩ : Shared).TypeIs (.ref C) "type" := ⟨_, hC, rfl⟩
  simp only [checkBuiltinCall, tc_kind, tc_split]
  repeat (any_goals (first | assumption | with_reducible refine wpAny_map ?_ | with_reducible refine wpAny_onRaise ?_ | with_reducible refine wpAny_loadPart_at hC ?_ | wp_step))
theorem lw_call (F : ExcBaseFacts B newId initId bmB) (hT : ∀ X : String, bm.contains (.type X) = bmB.contains (.type X)) {vs : List Value} {fI : Addr}
    (hC : h.get? C = some (excClassObj nm q C N bs bm hdct sn sub ab col dd k0 k1 k2 k3 k5 newId)) (hi : W.Looks (model prog w) h (typeLookup (.ref C) "__init__") (some (.ref fI))) (hb : ∀ self, W.Looks (model prog w) h (bindSpecial (.ref fI) self) (.ref fI, [self])) (hz : vs.length ≤ sizeLine)
    (hq : codeAny (model prog w) (A.under (.builtin "type.__call__" ⟨.ref C :: vs, kw⟩)) (.call (.ref fI) ⟨.ref (h.objs.size + 1) :: vs, kw⟩) (W.InitBack (h.objs.size + 1) R) ⟨(h.push (W.kdv_tup vs)).push (excO C h.objs.size), g, d, t, os⟩) :
    codeAny (model prog w) A (.call (.ref C) ⟨vs, kw⟩) R ⟨h, g, d, t, os⟩ := by
  have s1 := tc_lookup
  have s2 := tc_bind (.ref C)
  have hTy : (⟨h, g, d, t, os⟩ : Shared).TypeIs (.ref C) "type" := ⟨_, hC, rfl⟩
  refine codeAny_of_tree ?_
  show wpAny _ _ (callAny (.ref C) _) _ _ _
  repeat (any_goals (first | with_reducible refine wpAny_loadPart_at hC ?_ | assumption | wp_step))
  refine ⟨rfl, ?_⟩
  refine codeAny_call_builtin_at (Code.quiet_builtin _ (by decide +kernel)) entry_typeCall ?_
  exact lw_check_type hC (lw_type_call F hT hC hi hb hz (codeAny_mono hq fun r s' z => by rcases r with e | (v | _ | _ | _) <;> exact z))
end
end HandSPX
end PySem

namespace Lw
open PySem PySem.Spec PyProof.Rows L2
def tMkVK (C : Addr) (sp : Sp) (gV : List V → List V → List V) (tk : TA) : TE := fun σ H Q => tk σ H fun zs H1 => ∀ a, H1 a = none → sp (gV [.ref a] zs) (upd H1 a (exo a C none)) (fun v H2 => v = .non ∧ Q (.ref a) H2) (fun _ _ _ => False)
section
variable {X : Cx} {p pos : Pos}
/-- C(k = v, ..) -/
theorem pe_oexK {CX : CXT} {x : Str} {C fI : Addr} {k : Nat} {fd : FuncData} {ps ks : List Str} {sp : Sp} {kws : List Keyword} {tk : TA} {g : List Value → List Value → List Value} {gV : List V → List V → List V} (T : OexC X.K C) (iC : PySem.W.findIn X.K (.ref C) "__init__" = some (some (.ref fI))) (tI : PySem.W.typeIn X.K (.ref fI) = some (.type "function"))
    (F1 : FnOk X.prog X.w X.K X.mg X.base CX k fI fd ps sp) (hr : Room (k + 1) X.A) (hb : KBinds X.K fd ps ks g gV) (hx : Passes CX X (fun _ _ _ => False)) (hg : Gl X x) (hm : X.mg x = some (.ref C)) (hkw : PK X kws tk)
    (hall : (backToKw pos (keywordEach kws X.env)).all (·.1.isSome) = true := by rfl) (hks : (backToKw pos (keywordEach kws X.env)).filterMap (·.1) = ks := by rfl) (hdb : (x == ("__debug__" : Str)) = false := by decide)
    (hpl : ((backTo pos (starEach [] X.env)).any (·.1) || (backToKw pos (keywordEach kws X.env)).any (·.1.isNone)) = false := by rfl) :
    PE X (.Call (.Name x p) [] kws pos) (tMkVK C sp gV tk) := by
  refine ⟨fun pins s σ H Q I h => ?_⟩
  obtain ⟨nm, q, N, bs, bm, sn, sub, ab, col, dd, k0, k1, k2, k3, k5, hC, hbm⟩ := T.cls
  refine wpAny_Call_Name_kw (ld_glob I hg hm ?_ hdb)
  refine PySem.W.callWith_KW0 (h₀ := X.base) I.ok.mod.kin T.kC hall ?_ hpl
  refine thn (hkw.run pos pins s σ H _ I h) fun ws s1 ⟨zs, H1, I1, rz, q1⟩ => ⟨I1.kIn, ?_⟩
  rw [hks]
  show wpAny _ _ (call (.ref C) [] (ks.zip ws)) _ _ _
  obtain ⟨hp, g', dr, tk', os⟩ := s1
  have up1 : hp.objs.size ≤ hp.objs.size + 1 := Nat.le_succ _
  have hq := q1 (hp.objs.size + 1) (I1.hok.fresh up1)
  have old : ∀ b o, hp.get? b = some o → ((hp.push (PySem.W.kdv_tup [])).push (PySem.HandSPX.excO C hp.objs.size)).get? b = some o := fun b o e => Heap.get?_push_of_some _ (Heap.get?_push_of_some _ e)
  have here : ((hp.push (PySem.W.kdv_tup [])).push (PySem.HandSPX.excO C hp.objs.size)).get? (hp.objs.size + 1) = some (PySem.HandSPX.excO C hp.objs.size) := by heap_get
  have I2 : Inv X pins σ (upd H1 (hp.objs.size + 1) (exo (hp.objs.size + 1) C none)) ⟨(hp.push (PySem.W.kdv_tup [])).push (PySem.HandSPX.excO C hp.objs.size), g', dr, tk', os⟩ :=
    I1.laid (t' := tk') (a := hp.objs.size + 1) (o := exo (hp.objs.size + 1) C none) (h' := (hp.push (PySem.W.kdv_tup [])).push (PySem.HandSPX.excO C hp.objs.size)) old up1 (exo_ok here)
  have r1 : Vals [V.ref (hp.objs.size + 1)] [Value.ref (hp.objs.size + 1)] := .cons rfl .nil
  have r2 := hb.rel r1 rz
  have hl : (g [Value.ref (hp.objs.size + 1)] ws).length = ps.length := by
    rw [← r2.length]
    exact F1.len _ _ _ _ hq
  refine wpAny_call (PySem.HandSPX.lw_call F.excBase_ValueError (fun Y => PySem.HandSPX.refsVE_contains Y bm hbm) (I1.kIn _ _ hC) (PySem.W.looks_findIn I1.kIn iC) (fun self => PySem.W.bind_fn I1.kIn self tI) (Nat.zero_le _)
    (codeAny_mono (F1.run _ X.stack _ _ ⟨[Value.ref (hp.objs.size + 1)], ks.zip ws⟩ (g [Value.ref (hp.objs.size + 1)] ws) _ _ (fun _ _ _ => False) (hr.make C [] (ks.zip ws)) (I2.env0.make C [] (ks.zip ws)) (hb.to _ [Value.ref (hp.objs.size + 1)] ws I2.kIn hl) r2 hq) fun r s' hq' => ?_))
  cases r with
  | error er => exact hx pins σ _ _ er s' I2 hq'
  | ok fl =>
    cases fl with
    | ret u =>
      obtain ⟨v, H2, os2, bare2, un2, hok2, rv, ev, q2⟩ := hq'
      subst ev
      exact ⟨rv, .ref (hp.objs.size + 1), H2, I2.call' (ch := []) os2 un2 hok2 bare2 (fun _ z => nomatch z), rfl, q2⟩
    | next => exact False.elim hq'
    | brk => exact False.elim hq'
    | cont => exact False.elim hq'
/-- C(), an own class of errors without __init__ -/
theorem pe_oex0 {C : Addr} {bmB : List Value} {B newId initId : String} {x : Str} (F : ExcBaseFacts B newId initId bmB) (q : PySem.W.excIn X.K C bmB newId = true) (gC : X.mg x = some (.ref C)) (kC : PySem.W.keepIn X.K (.ref C) = true) (hg : Gl X x)
    (hdb : (x == ("__debug__" : Str)) = false := by decide) : PE X (.Call (.Name x p) [] [] pos) (fun σ H Q => ∀ a, H a = none → Q (.ref a) (upd H a (exo a C none))) := by
  refine ⟨fun pins s σ H Q I h => ?_⟩
  refine wpAny_Call_Name_kw (ld_glob I hg gC ?_ hdb)
  refine PySem.W.callWith_K0 I.kIn kC ?_
  obtain ⟨bm, N, nm, qn, bs, hdct, sn, sub, ab, col, dd, k0, k1, k2, k3, k5, mN, hC, hN, hni, T⟩ := exc_obj I.kIn q
  refine wpAny_call_exc_subT F T hC hN hni (fun h' a hm => ?_) (Nat.zero_le _)
  have hn : H a = none := I.hok.gone hm.new
  obtain ⟨t, ht, _, _⟩ := hm.there
  exact ⟨.ref a, upd H a (exo a C none), I.laidN hm.keeps hm.new hn (exo_ok (t1 := t) ht), rfl, h a hn⟩
/-- __init__(self, f, g): self.f = f; self.g = g -/
def sp_init2 (K : PySem.W.Frag) (C : Addr) (f1 f2 : Str) : Sp := fun vs H Q _ => ∃ (a : Addr) (y z : V), vs = [.ref a, y, z] ∧ H a = some (exo a C none) ∧ ∀ dx, H dx = none → dx ≠ a → Q .non (upd (upd (upd H dx (exd dx [(f1, y)])) a (exo a C (some dx))) dx (exd dx [(f2, z), (f1, y)]))
/-- isinstance(e, c), e a made error -/
def rIsW (K : PySem.W.Frag) : List V → Hp → VK → Prop := fun xs H Q => ∃ (a D : Addr) (d : Option Addr) (c : V) (cv : Value) (b : Bool), IsC K D ∧ H a = some (exo a D d) ∧ (∀ dx, d = some dx → ∃ fs, H dx = some (exd dx fs)) ∧ xs = [.ref a, c] ∧ ClsV c cv ∧ PySem.W.kitOne K (.ref D) cv = some b ∧ Q (.bl b) H
theorem call_isW : CallR X (.builtin "isinstance") (rIsW X.K) := by
  intro pins s σ H xs us Q I r h
  obtain ⟨a, D, d, c, cv, b, C, ha, hd, rfl, hcv, e, q⟩ := h
  cases r with
  | cons rx rr =>
    cases rr with
    | cons rt rr =>
      cases rr
      cases rx
      have ec := hcv.eq rt
      subst ec
      obtain ⟨t1, ho⟩ := exo_at I.hok ha
      obtain ⟨gt, hgt⟩ := C.gt
      obtain ⟨od, J⟩ : ∃ od : Option Obj, PySem.W.InstAt s.heap a { cls := .ref D, dict := d, data := .fields #[.ref t1, .none, .none, .none, .bool false, .none] } D od := by
        cases d with
        | none => exact ⟨none, ho, rfl, rfl, trivial⟩
        | some dx =>
          obtain ⟨fs, hdx⟩ := hd dx rfl
          obtain ⟨mA, hns, _⟩ := exd_at I.hok hdx
          obtain ⟨od, hod, _⟩ := lookIn_ns hns
          exact ⟨some od, ho, rfl, rfl, hod⟩
      exact PySem.W.kia_one (PySem.W.kitx_exc C.cl C.ga hgt C.sb C.ca C.sn C.tk C.mo) I.kIn J e (by cases hcv <;> exact fun z => nomatch z) fun tk => ⟨.bl b, H, I.kept (t' := tk) fun _ _ z => z, rfl, q⟩
/-! ### two lists of the very same things -/
def DSame : Eqv := fun x y _ => (flatV x = true ∧ flatV y = true ∧ eqV x y = true) ∨ ∃ a, x = .ref a ∧ y = .ref a
theorem mon_same : Mon DSame := fun _ _ _ _ _ h => h
theorem eqG_same : EqG X 0 DSame := by
  intro A pins s σ H x y u v sb I rx ry d
  rcases d with d | ⟨a, rfl, rfl⟩
  · exact eqG_flat A pins s σ H x y u v sb I rx ry d
  · cases rx
    cases ry
    exact SeqAt.EqAt.same (A := A) (s := s) (.ref a) X.prog X.w X.xe _ ⟨rfl, H, I, Ext.rfl'⟩
theorem op_eqSame {k : Nat} (hr : Room (k + 1) X.A) : OpR X (compareOp .Eq) (rEqG (DList DSame)) := op_eqG (rcG_list mon_same eqG_same) (hr.mono (by omega))
end
end Lw

namespace Lw
open PySem PySem.Spec PyProof.Rows L2
open Evl (Ex Ev EvA EvL)
/-! ### what evaluates to a thing of which something is true -/
def EvR (R : Hp → V → Prop) (te : TE) (σ : L2.St) (H : Hp) : Prop := ∀ H1, Ex H H1 → ∀ Q : VK, (∀ v H2, Ex H1 H2 → R H2 v → Q v H2) → te σ H1 Q
def EaR {α : Type} (R : Hp → V → α → Prop) (ta : TA) (σ : L2.St) (H : Hp) (bs : List α) : Prop := ∀ H1, Ex H H1 → ∀ Q : List V → Hp → Prop, (∀ vs H2, Ex H1 H2 → Rels R H2 vs bs → Q vs H2) → ta σ H1 Q
def ElR {α : Type} (R : Hp → V → α → Prop) (te : TE) (σ : L2.St) (H : Hp) (bs : List α) : Prop := ∀ H1, Ex H H1 → ∀ Q : VK, (∀ p xs H2, H1 p = none → Ex H1 H2 → H2 p = some (.lst xs) → Rels R H2 xs bs → Q (.ref p) H2) → te σ H1 Q
section
variable {α : Type} {R : Hp → V → α → Prop} {σ : L2.St} {H : Hp} {te tb : TE} {ta : TA} {b : α} {bs cs : List α}
theorem EvR.imp {R S : Hp → V → Prop} (h : EvR R te σ H) (k : ∀ H v, R H v → S H v) : EvR S te σ H := fun H1 e Q q => h H1 e Q fun v H2 e2 r => q v H2 e2 (k H2 v r)
theorem ear_nil : EaR R tNil σ H [] := fun H1 _ _ q => q [] H1 (Ex.refl H1) trivial
theorem ear_cons (mon : ∀ {H H' : Hp} {v : V} {b : α}, Ex H H' → R H v b → R H' v b) (h : EvR (fun H v => R H v b) te σ H) (r : EaR R ta σ H bs) : EaR R (tCons te ta) σ H (b :: bs) := fun H1 e Q q =>
  h H1 e _ fun v H2 e2 hv => r H2 (e.trans e2) _ fun vs H3 e3 hvs => q (v :: vs) H3 (e2.trans e3) ⟨mon e3 hv, hvs⟩
theorem elr_lst (mon : ∀ {H H' : Hp} {v : V} {b : α}, Ex H H' → R H v b → R H' v b) (h : EaR R ta σ H bs) (hl : bs.length ≤ 100000) : ElR R (tLst ta) σ H bs := fun H1 e Q q =>
  h H1 e _ fun vs H2 e2 hv => ⟨Evl.sz_of (by rw [hv.len]; exact hl), fun p np => q p vs _ (Evl.fresh_back e2 np) (e2.trans (Ex.new np)) upd_same (hv.imp fun _ _ r => mon (Ex.new np) r)⟩
theorem elr_cat (mon : ∀ {H H' : Hp} {v : V} {b : α}, Ex H H' → R H v b → R H' v b) (h : ElR R te σ H bs) (k : ElR R tb σ H cs) (hl : bs.length + cs.length ≤ 100000) : ElR R (tOp rCat te tb) σ H (bs ++ cs) := fun H1 e Q q =>
  h H1 e _ fun p xs H2 np e2 hp hx => k H2 (e.trans e2) _ fun r ys H3 nr e3 hr hy => ⟨p, r, xs, ys, rfl, rfl, e3 _ _ hp, hr, Evl.sz_of (by rw [hx.len, hy.len]; exact hl), fun l nl =>
    q l (xs ++ ys) _ (Evl.fresh_back (e2.trans e3) nl) ((e2.trans e3).trans (Ex.new nl)) upd_same (Rels.append (hx.imp fun _ _ r => mon (e3.trans (Ex.new nl)) r) (hy.imp fun _ _ r => mon (Ex.new nl) r))⟩
theorem elr_var (mon : ∀ {H H' : Hp} {v : V} {b : α}, Ex H H' → R H v b → R H' v b) {i : Nat} {p : Addr} {xs : List V} (hi : σ[i]? = some (some (.ref p))) (hp : H p = some (.lst xs)) (hx : Rels R H xs bs) :
    ∀ H1, Ex H H1 → ∀ Q : VK, (H1 p = some (.lst xs) → Rels R H1 xs bs → Q (.ref p) H1) → tVar i σ H1 Q := fun H1 e Q q => ⟨.ref p, hi, q (e _ _ hp) (hx.imp fun _ _ r => mon e r)⟩
/-- xs + [..], xs a name's list -/
theorem elr_catV (mon : ∀ {H H' : Hp} {v : V} {b : α}, Ex H H' → R H v b → R H' v b) {i : Nat} {p : Addr} {xs : List V} (hi : σ[i]? = some (some (.ref p))) (hp : H p = some (.lst xs)) (hx : Rels R H xs bs) (k : ElR R tb σ H cs) (hl : bs.length + cs.length ≤ 100000) :
    ElR R (tOp rCat (tVar i) tb) σ H (bs ++ cs) := fun H1 e Q q => ⟨.ref p, hi, k H1 e _ fun r ys H3 nr e3 hr hy => ⟨p, r, xs, ys, rfl, rfl, (e.trans e3) _ _ hp, hr, Evl.sz_of (by rw [hx.len, hy.len]; exact hl), fun l nl =>
    q l (xs ++ ys) _ (Evl.fresh_back e3 nl) (e3.trans (Ex.new nl)) upd_same (Rels.append (hx.imp fun _ _ r => mon ((e.trans e3).trans (Ex.new nl)) r) (hy.imp fun _ _ r => mon (Ex.new nl) r))⟩⟩
end
section
variable {K : PySem.W.Frag} {σ : L2.St} {H : Hp} {te tb : TE}
theorem el_catV {i : Nat} {p : Addr} {xs ys : List V} (hi : σ[i]? = some (some (.ref p))) (hp : H p = some (.lst xs)) (k : EvL tb σ H ys) (hl : (xs ++ ys).length ≤ 100000) : EvL (tOp rCat (tVar i) tb) σ H (xs ++ ys) := fun H1 e Q q =>
  ⟨.ref p, hi, k H1 e _ fun r H3 nr e3 hr => ⟨p, r, xs, ys, rfl, rfl, (e.trans e3) _ _ hp, hr, Evl.sz_of (by rw [List.length_append] at hl; exact hl), fun l nl => q l _ (Evl.fresh_back e3 nl) (e3.trans (Ex.new nl)) upd_same⟩⟩
end
section
variable {α : Type} {R : Hp → V → α → Prop} {σ : L2.St} {H : Hp} {te : TE} {bs : List α} {D : Ends} {tz : TS}
theorem q_asgR {i : Nat} (h : ElR R te σ H bs) (k : ∀ p xs H1, H p = none → Ex H H1 → H1 p = some (.lst xs) → Rels R H1 xs bs → tz D (σ.set i (some (.ref p))) H1) : tSeq (tAsg te (gName i)) tz D σ H :=
  h H (Ex.refl H) _ fun p xs H1 np e hp hr => k p xs H1 np e hp hr
theorem s_retR (h : ElR R te σ H bs) (k : ∀ p xs H1, H p = none → Ex H H1 → H1 p = some (.lst xs) → Rels R H1 xs bs → D.rt (.ref p) H1) : tRet te D σ H :=
  h H (Ex.refl H) _ fun p xs H1 np e hp hr => k p xs H1 np e hp hr
end
/-- a class of errors with two fields -/
structure ErC2 (P : Program) (w : World) (K : PySem.W.Frag) (mg : Str → Option Value) (base : Heap) (x f f2 : Str) (C fI : Addr) (fd : FuncData) : Prop where
  O : OexC K C
  X : XfC K C
  I : IsC K C
  i : PySem.W.findIn K (.ref C) "__init__" = some (some (.ref fI))
  t : PySem.W.typeIn K (.ref fI) = some (.type "function")
  no : PySem.W.findIn K (.ref C) f = some none
  no2 : PySem.W.findIn K (.ref C) f2 = some none
  g : mg x = some (.ref C)
  G : FnOk P w K mg base CX0 1 fI fd ["self", f, f2] (sp_init2 K C f f2)
  b : Binds K fd ["self", f, f2] []
/-! ### made errors -/
theorem exo_lst {a C : Addr} {d : Option Addr} {xs : List V} : exo a C d ≠ .lst xs := fun z => by
  have z' : HO.ext _ = HO.lst xs := z
  cases z'
theorem exd_lst {a : Addr} {fs : List (Str × V)} {xs : List V} : exd a fs ≠ .lst xs := fun z => by
  have z' : HO.ext _ = HO.lst xs := z
  cases z'
theorem exo_dk {a C : Addr} {d : Option Addr} {xs : List (Key × V)} : exo a C d ≠ .dK xs := fun z => by
  have z' : HO.ext _ = HO.dK xs := z
  cases z'
theorem exd_dk {a : Addr} {fs : List (Str × V)} {xs : List (Key × V)} : exd a fs ≠ .dK xs := fun z => by
  have z' : HO.ext _ = HO.dK xs := z
  cases z'
/-- v is an error of the class at C that keeps fs -/
def ErAt (C : Addr) (fs : List (Str × V)) (H : Hp) (v : V) : Prop := ∃ (a : Addr) (d : Option Addr), v = .ref a ∧ H a = some (exo a C d) ∧ match d with
  | none => fs = []
  | some dx => H dx = some (exd dx fs)
theorem ErAt.ex {C : Addr} {fs : List (Str × V)} {H H' : Hp} {v : V} (e : Ex H H') (h : ErAt C fs H v) : ErAt C fs H' v := by
  obtain ⟨a, d, h1, h2, h3⟩ := h
  refine ⟨a, d, h1, e _ _ h2, ?_⟩
  cases d with
  | none => exact h3
  | some dx => exact e _ _ h3
/-- another object changes -/
theorem ErAt.put {C : Addr} {fs : List (Str × V)} {H : Hp} {v : V} {p : Addr} {o u : HO} (hp : H p = some o) (n1 : ∀ a C d, exo a C d ≠ o) (n2 : ∀ a f, exd a f ≠ o) (h : ErAt C fs H v) : ErAt C fs (upd H p u) v := by
  obtain ⟨a, d, h1, h2, h3⟩ := h
  refine ⟨a, d, h1, (upd_ne (ne_of h2 hp (n1 _ _ _))).trans h2, ?_⟩
  cases d with
  | none => exact h3
  | some dx => exact (upd_ne (ne_of h3 hp (n2 _ _))).trans h3
section
variable {K : PySem.W.Frag} {σ : L2.St} {H : Hp} {te tf : TE} {C a : Addr} {f f2 : Str} {y z : V}
theorem mk1_er {H1 : Hp} {Q : VK} {C : Addr} {f : Str} {y : V} (q : ∀ v H2, Ex H1 H2 → ErAt C [(f, y)] H2 v → Q v H2) : ∀ a, H1 a = none → sp_init1 K C f [.ref a, y] (upd H1 a (exo a C none)) (fun v H2 => v = .non ∧ Q (.ref a) H2) (fun _ _ _ => False) := fun a na =>
  ⟨a, y, rfl, upd_same, fun dx nd ne => ⟨rfl, q _ _ (fun b o hb => by
    have hba := ne_of_none hb na
    have hbd : b ≠ dx := ne_of_none (by rw [upd_ne hba]; exact hb) nd
    rw [upd_ne hba, upd_ne hbd, upd_ne hba]
    exact hb) ⟨a, some dx, rfl, upd_same, (upd_ne ne).trans upd_same⟩⟩⟩
theorem mk2_er {H1 : Hp} {Q : VK} {C : Addr} {f f2 : Str} {y z : V} (q : ∀ v H2, Ex H1 H2 → ErAt C [(f2, z), (f, y)] H2 v → Q v H2) : ∀ a, H1 a = none → sp_init2 K C f f2 [.ref a, y, z] (upd H1 a (exo a C none)) (fun v H2 => v = .non ∧ Q (.ref a) H2) (fun _ _ _ => False) := fun a na =>
  ⟨a, y, z, rfl, upd_same, fun dx nd ne => ⟨rfl, q _ _ (fun b o hb => by
    have hba := ne_of_none hb na
    have hbd : b ≠ dx := ne_of_none (by rw [upd_ne hba]; exact hb) nd
    rw [upd_ne hbd, upd_ne hba, upd_ne hbd, upd_ne hba]
    exact hb) ⟨a, some dx, rfl, (upd_ne (Ne.symm ne)).trans upd_same, upd_same⟩⟩⟩
/-- C(e) -/
theorem evr_mk1 (h : Ev te σ H y) : EvR (ErAt C [(f, y)]) (tMkV C (sp_init1 K C f) [] (tCons te tNil)) σ H := fun H1 e Q q =>
  h H1 e _ fun H2 e2 => ⟨by show 1 ≤ 1000; decide, mk1_er fun v H3 e3 r => q v H3 (e2.trans e3) r⟩
theorem evr_mk2 (h : Ev te σ H y) (k : Ev tf σ H z) : EvR (ErAt C [(f2, z), (f, y)]) (tMkV C (sp_init2 K C f f2) [] (tCons te (tCons tf tNil))) σ H := fun H1 e Q q =>
  h H1 e _ fun H2 e2 => k H2 (e.trans e2) _ fun H3 e3 => ⟨by show 2 ≤ 1000; decide, mk2_er fun v H4 e4 r => q v H4 ((e2.trans e3).trans e4) r⟩
def kwG {α : Type} : List α → List α → List α := fun us ws => match us, ws with
  | [a], [b] => [a, b]
  | _, _ => []
def kwG2 {α : Type} : List α → List α → List α := fun us ws => match us, ws with
  | [a], [n, v] => [a, v, n]
  | _, _ => []
theorem kwG_rel {vs : List V} {us : List Value} {zs : List V} {ws : List Value} (r1 : Vals vs us) (r2 : Vals zs ws) : Vals (kwG vs zs) (kwG us ws) := by
  cases r1 with
  | nil => exact .nil
  | cons a r =>
    cases r with
    | cons _ _ => exact .nil
    | nil =>
      cases r2 with
      | nil => exact .nil
      | cons b r =>
        cases r with
        | nil => exact .cons a (.cons b .nil)
        | cons _ _ => exact .nil
theorem kwG2_rel {vs : List V} {us : List Value} {zs : List V} {ws : List Value} (r1 : Vals vs us) (r2 : Vals zs ws) : Vals (kwG2 vs zs) (kwG2 us ws) := by
  cases r1 with
  | nil => exact .nil
  | cons a r =>
    cases r with
    | cons _ _ => exact .nil
    | nil =>
      cases r2 with
      | nil => exact .nil
      | cons b r =>
        cases r with
        | nil => exact .nil
        | cons c r =>
          cases r with
          | nil => exact .cons a (.cons c (.cons b .nil))
          | cons _ _ => exact .nil
/-- C(f = e) -/
theorem evr_mkK1 (h : Ev te σ H y) : EvR (ErAt C [(f, y)]) (tMkVK C (sp_init1 K C f) kwG (tCons te tNil)) σ H := fun H1 e Q q =>
  h H1 e _ fun H2 e2 => mk1_er fun v H3 e3 r => q v H3 (e2.trans e3) r
theorem evr_mkK2 (h : Ev te σ H z) (k : Ev tf σ H y) : EvR (ErAt C [(f2, z), (f, y)]) (tMkVK C (sp_init2 K C f f2) kwG2 (tCons te (tCons tf tNil))) σ H := fun H1 e Q q =>
  h H1 e _ fun H2 e2 => k H2 (e.trans e2) _ fun H3 e3 => mk2_er fun v H4 e4 r => q v H4 ((e2.trans e3).trans e4) r
theorem evr_mk0 : EvR (ErAt C []) (fun _ H Q => ∀ a, H a = none → Q (.ref a) (upd H a (exo a C none))) σ H := fun H1 e Q q a na => q _ _ (Ex.new na) ⟨a, none, rfl, upd_same, rfl⟩
/-- e.f -/
theorem ev_xv {fs : List (Str × V)} (h : Ev te σ H (.ref a)) (r : ErAt C fs H (.ref a)) (l : fs.lookup f = some y) : Ev (tXv C f te) σ H y := fun H1 e Q q =>
  h H1 e _ fun H2 e2 => by
    obtain ⟨a', d, ea, h2, h3⟩ := r.ex (e.trans e2)
    cases ea
    cases d with
    | none => rw [h3] at l; cases l
    | some dx => exact ⟨a, dx, fs, y, rfl, h2, h3, l, q H2 e2⟩
/-- isinstance(e, c) -/
theorem rc_isW {fs : List (Str × V)} {c : V} {cv : Value} {b : Bool} (I : IsC K C) (r : ErAt C fs H (.ref a)) (hc : ClsV c cv) (hk : PySem.W.kitOne K (.ref C) cv = some b) : Evl.RC (rIsW K) [.ref a, c] H (.bl b) := fun H1 e Q q => by
  obtain ⟨a', d, ea, h2, h3⟩ := r.ex e
  cases ea
  refine ⟨a, C, d, c, cv, b, I, h2, fun dx hd => ?_, rfl, hc, hk, q H1 (Ex.refl H1)⟩
  subst hd
  exact ⟨fs, h3⟩
end
end Lw

namespace Lw
open PySem PySem.Spec PyProof.Rows L2
/-! ### a name's list or tuple walked -/
def iSeq (K : PySem.W.Frag) (i : Nat) : TI := fun σ H R => ∃ a, σ[i]? = some (some (.ref a)) ∧ (((∃ xs, SqL K H a xs) ∧ R (Itl K a) H) ∨ ((∃ xs, SqT K H a xs) ∧ R (Itt K a) H))
theorem k_piS {X : Cx} {tg l : Expr} {i : Nat} (K : PySem.W.Frag) (hl : PE X l (tVar i)) (h : X.K = K := by rfl) : PI X tg l (iSeq K i) := by
  subst h
  refine ⟨fun pins s σ H R I q => ?_⟩
  obtain ⟨a, hi, q | q⟩ := q
  · exact (pi_list hl).run pins s σ H R I ⟨.ref a, hi, a, rfl, q.1, q.2⟩
  · exact (pi_tup hl).run pins s σ H R I ⟨.ref a, hi, a, rfl, q.1, q.2⟩
/-! ### o[i] by an own __getitem__ -/
structure OwnIx (K : PySem.W.Frag) (C f : Addr) : Prop where
  at_ : PySem.W.findIn K (.ref C) "__getitem__" = some (some (.ref f))
  isF : PySem.W.fnIn K f = true
  fn : PySem.W.isFn K (.ref f) = true
def tOix (C : Addr) (sp : Sp) (E : L2.St → XK) (to ti : TE) : TE := fun σ H Q => to σ H fun x H1 => ti σ H1 fun y H2 => ∃ a dx fs, x = .ref a ∧ H2 a = some (.ins C dx fs) ∧ sp [.ref a, y] H2 Q (E σ)
theorem pe_oix {X : Cx} {CX : CXT} {k : Nat} {C g : Addr} {fd : FuncData} {ps : List Str} {sp : Sp} {E : L2.St → XK} {o i : Expr} {pos : Pos} {to ti : TE} (ho : PE X o to) (hi : PE X i ti) (O : OwnIx X.K C g) (F : FnOk X.prog X.w X.K X.mg X.base CX k g fd ps sp) (hr : Room (k + 1) X.A) (hb : Binds X.K fd ps []) (hx : ∀ σ, PassesAt CX X σ (E σ))
    (hsl : ∀ ov iv, subscripted i true ov iv = runValue (.builtin "lifetime.subscript" ⟨[ov, iv], []⟩) := by intro _ _; with_unfolding_all rfl) : PE X (.Subscript o i pos) (tOix C sp E to ti) := by
  refine ⟨fun pins s σ H Q I h => ?_⟩
  refine Subscript_ (thn (ho.run pins s σ H _ I h) fun u s1 ⟨x, H1, I1, rx, q1⟩ => thn (hi.run pins s1 σ H1 _ I1 q1) fun iv s2 ⟨y, H2, I2, ry, a, dx, fs, ex, ea, q2⟩ => ?_)
  subst ex
  obtain rfl : u = Value.ref a := rx
  obtain ⟨m, fr⟩ := I2.fr
  obtain ⟨mA, J, _⟩ := ins_get I2.hok ea
  obtain ⟨od, J, _⟩ := J.look
  refine PySem.W.sub_K fr I2.ok.mod.kin J O.at_ O.isF O.fn ?_ (hsl _ _)
  have r2 : Vals [V.ref a, y] [Value.ref a, iv] := .cons rfl (.cons ry .nil)
  have hl : [Value.ref a, iv].length = ps.length := by
    rw [← r2.length]
    exact F.len _ _ _ _ q2
  have b := hb s2 [.ref a, iv] I2.kIn (by rw [List.append_nil]; exact hl)
  rw [List.append_nil] at b
  refine wpAny_call (codeAny_mono (F.run X.A.in1 X.stack s2 H2 ⟨[.ref a, iv], []⟩ [.ref a, iv] [.ref a, y] Q (E σ) hr.in1 I2.env0.in1 b r2 q2) fun r s' hq => ?_)
  cases r with
  | error e => exact hx σ pins H2 s2 e s' I2 hq
  | ok fl =>
    cases fl with
    | ret u => exact I2.after hq
    | next => exact False.elim hq
    | brk => exact False.elim hq
    | cont => exact False.elim hq
/-! ### dicts of the same things compared -/
def SameV (x y : V) : Prop := (flatV x = true ∧ flatV y = true ∧ eqV x y = true) ∨ ∃ a, x = .ref a ∧ y = .ref a
theorem same_at {A : Around} {s : Shared} {x y : V} {u v : Value} (rx : RelV x u) (ry : RelV y v) (h : SameV x y) : SeqAt.EqAt A s u v true := by
  rcases h with ⟨fx, fy, e⟩ | ⟨a, rfl, rfl⟩
  · rw [← e]
    exact eqAt_V rx ry fx fy
  · cases rx
    cases ry
    exact SeqAt.EqAt.same (.ref a)
theorem hits_same {κ : Type} [DecidableEq κ] {A : Around} {s : Shared} {ls : List (κ × V)} {vb : List (κ × Value)} (rb : KV ls vb) {ks : List (κ × V)} {va : List (κ × Value)} (ra : KV ks va) :
    (∀ p ∈ ks, ∃ y, valV ls p.1 = some y ∧ SameV p.2 y) → PySem.W.KeqHits A s vb va true := by
  unfold KV at ra
  induction ra with
  | nil => intro _; exact .nil
  | @cons p q ps qs h t ih =>
    intro hp
    obtain ⟨h1, h2⟩ := h
    obtain ⟨z, e, f⟩ := hp p List.mem_cons_self
    have rr : RelO (some z) (valueAt vb p.1) := by rw [← e]; exact rb.val p.1
    obtain ⟨y, hy, ry⟩ := rr.some_of
    obtain ⟨k, v⟩ := q
    have hk : p.1 = k := h1
    rw [hk] at hy
    show PySem.W.KeqHits A s vb ((k, v) :: qs) (true && true)
    exact .hit hy (same_at h2 ry f) (ih fun p' hm => hp p' (List.mem_cons_of_mem _ hm))
def DDict : Eqv := fun x y H => ∃ a b ks ls, x = .ref a ∧ y = .ref b ∧ H a = some (.dK ks) ∧ H b = some (.dK ls) ∧ ks.length = ls.length ∧ ∀ p ∈ ks, ∃ y, valV ls p.1 = some y ∧ SameV p.2 y
theorem mon_dict : Mon DDict := fun x y H H' e d => by
  obtain ⟨a, b, ks, ls, hx, hy, h1, h2, r⟩ := d
  exact ⟨a, b, ks, ls, hx, hy, e _ _ h1, e _ _ h2, r⟩
section
variable {X : Cx} {n : Nat} {D : Eqv}
theorem rcG_dict : RcG X n DDict := by
  intro A pins s σ H x y u v sb I rx ry d
  obtain ⟨a, b, ks, ls, rfl, rfl, ea, eb, hlen, hp⟩ := d
  cases rx
  cases ry
  obtain ⟨_, ya, va, ra, da⟩ := (show ObjOk X.prog X.w H s.heap a (.dK ks) from I.hok a _ ea)
  obtain ⟨_, yb, vb, rb, db⟩ := (show ObjOk X.prog X.w H s.heap b (.dK ls) from I.hok b _ eb)
  have hl : va.length = vb.length := by rw [← ra.length, ← rb.length]; exact hlen
  exact PySem.W.keq_eq (knd := mixKind X.prog X.w) (r := true) ya yb da db sb.room.units0 (fun _ => hits_same rb ra hp) ⟨by simp [hl], H, I, Ext.rfl'⟩
theorem eqG_dict : EqG X n DDict := rcG_dict.eqG fun _ _ _ d => let ⟨a, b, _, _, hx, hy, _⟩ := d; ⟨a, b, hx, hy⟩
/-- d != e, the same things in both -/
def rNeG (D : Eqv) : R2 := fun x y H Q => D x y H ∧ ∀ H', Ext H H' → Q (.bl false) H'
theorem op_neDict (hu : X.A.units < cLine) : OpR X (compareOp .NotEq) (rNeG DDict) := by
  intro pins s σ H x y v u Q I rx ry h
  obtain ⟨⟨a, b, ks, ls, rfl, rfl, ea, eb, hlen, hp⟩, q⟩ := h
  cases rx
  cases ry
  obtain ⟨_, ya, va, ra, da⟩ := (show ObjOk X.prog X.w H s.heap a (.dK ks) from I.hok a _ ea)
  obtain ⟨_, yb, vb, rb, db⟩ := (show ObjOk X.prog X.w H s.heap b (.dK ls) from I.hok b _ eb)
  have hl : va.length = vb.length := by rw [← ra.length, ← rb.length]; exact hlen
  exact PySem.W.keq_ne (knd := mixKind X.prog X.w) (r := true) ya yb da db hu (fun _ => hits_same rb ra hp) ⟨.bl false, H, I, by simp [hl]; rfl, q H Ext.rfl'⟩
end
end Lw

/-! ### != of two lists of one length, told item by item, within one model -/
namespace PySem.SeqAt
open AutoSeq1 (wpAny_loadPart')
open MeetsSeq MeetsSeq2 MeetsSeq3 SeqRoads2
section
variable {prog : Program} {w : World}
theorem lw_ne_loop (p q : Addr) (us vs : Array Value) (m m2 : Nat) (d1 d2 : Option Addr) (s1 s2 : Array (Option Value)) (hz : us.size = vs.size) (e : Nat → Bool) :
    ∀ (k i : Nat), us.size - i = k → MeetsIn prog w (Builtin.«list.__eq__.loop» ⟨[.ref p, .ref q, rawInt i, rawInt 3], []⟩) fun A R s =>
      s.heap.get? p = some { cls := .type "list", dict := d1, data := .seq us m, slots := s1 } ∧ s.heap.get? q = some { cls := .type "list", dict := d2, data := .seq vs m2, slots := s2 } ∧ (∀ j (h1 : j < us.size) (h2 : j < vs.size), EqP prog w A.in1 s us[j] vs[j] (e j)) ∧ R (.ok (.ret (.bool (!((List.range us.size).drop i).all e)))) s := by
  intro k
  induction k with
  | zero =>
    intro i hk A R s h
    obtain ⟨hh, gg, dr, tk, os⟩ := s
    obtain ⟨hp, hq, he, hR⟩ := h
    wp_walk using wpAny_loadPart' hp, wpAny_loadPart' hq
    have n1 : us[((i : Nat) : Int).toNat]? = none := by simp; omega
    have n2 : vs[((i : Nat) : Int).toNat]? = none := by simp; omega
    have hd : (List.range us.size).drop i = [] := by simp; omega
    rw [hd] at hR
    rw [n1, n2]
    wp_walk using wpAny_loadPart' hp, wpAny_loadPart' hq
    show R (.ok (.ret (.bool (us.size != vs.size)))) _
    rw [hz]
    simpa using hR
  | succ k ih =>
    intro i hk A R s h
    obtain ⟨hh, gg, dr, tk, os⟩ := s
    obtain ⟨hp, hq, he, hR⟩ := h
    wp_walk using wpAny_loadPart' hp, wpAny_loadPart' hq
    have l1 : i < us.size := by omega
    have l2 : i < vs.size := by omega
    have g1 : us[((i : Nat) : Int).toNat]? = some us[i] := by simp [l1]
    have g2 : vs[((i : Nat) : Int).toNat]? = some vs[i] := by simp [l2]
    have hd : (List.range us.size).drop i = i :: (List.range us.size).drop (i + 1) := by simp [List.drop_eq_getElem_cons, l1]
    have hc : ((i : Int) + 1) = ((i + 1 : Nat) : Int) := by push_cast; rfl
    rw [hd, List.all_cons] at hR
    rw [g1, g2]
    refine wpAny_bind (he i l1 l2 _ _ ?_)
    cases hi : e i with
    | true =>
      rw [hi] at hR
      wp_walk
      rw [hc]
      refine ⟨plainId_quiet plain_eq_loop _, codeAny_builtin entry_eq_loop ?_⟩
      rw [Around.under_plainId plain_eq_loop _]
      exact ih (i + 1) (by omega) A R _ ⟨hp, hq, he, by simpa using hR⟩
    | false =>
      rw [hi] at hR
      wp_walk using wpAny_loadPart' hp, wpAny_loadPart' hq
      rw [g1, g2]
      wp_walk
      simpa using hR
theorem lw_list_ne (p q : Addr) (us vs : Array Value) (m m2 : Nat) (d1 d2 : Option Addr) (s1 s2 : Array (Option Value)) (hz : us.size = vs.size) (e : Nat → Bool) :
    MeetsIn prog w (Builtin.«list.__ne__» ⟨[.ref p, .ref q], []⟩) fun A R s =>
      s.heap.get? p = some { cls := .type "list", dict := d1, data := .seq us m, slots := s1 } ∧ s.heap.get? q = some { cls := .type "list", dict := d2, data := .seq vs m2, slots := s2 } ∧ (∀ j (h1 : j < us.size) (h2 : j < vs.size), EqP prog w A.in1 s us[j] vs[j] (e j)) ∧ R (.ok (.ret (.bool (!(List.range us.size).all e)))) s := by
  intro A R s h
  obtain ⟨hh, gg, dr, tk, os⟩ := s
  obtain ⟨hp, hq, he, hR⟩ := h
  have sl := AutoSeq1.sub_list_list
  have nz : ¬ (us.size != vs.size) = true := by simp [hz]
  wp_walk using wpAny_loadPart' hp, wpAny_loadPart' hq
  refine ⟨plainId_quiet plain_eq_loop _, codeAny_builtin entry_eq_loop ?_⟩
  rw [Around.under_plainId plain_eq_loop _]
  exact lw_ne_loop p q us vs m m2 d1 d2 s1 s2 hz e _ 0 rfl A R _ ⟨hp, hq, he, by simpa using hR⟩
theorem lw_ne_lists {A : Around} {s : Shared} {p q : Addr} {us vs : Array Value} {e : Nat → Bool} (hp : s.heap.IsList p us) (hq : s.heap.IsList q vs) (hz : us.size = vs.size) (hu : A.units < cLine)
    (he : ∀ j (h1 : j < us.size) (h2 : j < vs.size), EqP prog w A.in1 s us[j] vs[j] (e j)) {E Q : Value → Shared → Prop} (h : Q (.bool (!(List.range us.size).all e)) s) : wpAny (model prog w) A (richCompare .NotEq (.ref p) (.ref q)) Q E s := by
  obtain ⟨⟨c1, d1, x1, s1⟩, o1, k1, m1, r1⟩ := id hp
  obtain ⟨⟨c2, d2, x2, s2⟩, o2, k2, m2, r2⟩ := id hq
  simp only at k1 r1 k2 r2
  subst k1 r1 k2 r2
  have ta : s.TypeIs (.ref p) "list" := ⟨_, o1, rfl⟩
  have tb : s.TypeIs (.ref q) "list" := ⟨_, o2, rfl⟩
  exact wpAny_richCompare_same_room (op := .NotEq) ta tb F.slot_list_ne (call_meetsIn F.slot_list_ne ta F.entry_list_ne (F.args_list_ne_2 _ _) (lw_list_ne p q us vs m1 m2 d1 d2 s1 s2 hz e)
    ⟨o1, o2, he, show Value.bool (!(List.range us.size).all e) ≠ Value.notImplemented ∧ Q (.bool (!(List.range us.size).all e)) s from ⟨(fun x => nomatch x), h⟩⟩) hu
end
end PySem.SeqAt

namespace Lw
open PySem PySem.Spec PyProof.Rows L2
/-! ### == of two things by what the abstract heap knows: data, dicts, the same thing; both answers -/
def EqS (n : Nat) (X : Cx) (H : Hp) (x y : V) (b : Bool) : Prop :=
  ∀ (pins : List (Addr × Obj)) (σ : L2.St) (s : Shared) (A : Around) (u v : Value), L2.Inv X pins σ H s → L2.RelV x u → L2.RelV y v → A.units + n < cLine → SeqAt.EqP X.prog X.w A s u v b
section
variable {X : Cx} {H : Hp} {x y : V} {b : Bool} {n m : Nat}
theorem EqS.mono (h : EqS n X H x y b) (k : n ≤ m) : EqS m X H x y b := fun pins σ s A u v I rx ry hu => h pins σ s A u v I rx ry (by omega)
theorem eqs_same (h : SameV x y) : EqS n X H x y true := fun pins σ s A u v I rx ry _ => (same_at rx ry h).eqP
theorem eqs_flat (hx : flatV x = true) (hy : flatV y = true) : EqS n X H x y (eqV x y) := fun pins σ s A u v I rx ry _ => (eqAt_V rx ry hx hy).eqP
theorem eqs_data {d e : PyData} (hd : Dp X.K H x d) (he : Dp X.K H y e) (gd : GoodD n d) (ge : GoodD n e) : EqS n X H x y (PyData.eqv d e) := fun pins σ s A u v I rx ry hu => by
  obtain ⟨as, r1⟩ := Dp.reads I d x u hd rx
  obtain ⟨bs, r2⟩ := Dp.reads I e y v he ry
  exact (SeqAt.eqAt_reads d e A s u v as bs r1 r2 gd.1 ge.1 (by have := gd.2; have := ge.2; omega)).eqP
/-- items of two lists -/
theorem eqs_items {A : Around} {s : Shared} {pins : List (Addr × Obj)} {σ : L2.St} {xs ys : List V} {us vs : List Value} {e : Nat → Bool} (I : L2.Inv X pins σ H s) (r1 : Vals xs us) (r2 : Vals ys vs) (hu : A.units + n < cLine)
    (he : ∀ j a b, xs[j]? = some a → ys[j]? = some b → EqS n X H a b (e j)) : ∀ j (h1 : j < us.toArray.size) (h2 : j < vs.toArray.size), SeqAt.EqP X.prog X.w A s us.toArray[j] vs.toArray[j] (e j) := fun j h1 h2 => by
  have k1 : j < xs.length := by rw [r1.length]; simpa using h1
  have k2 : j < ys.length := by rw [r2.length]; simpa using h2
  obtain ⟨u, hu1, ru⟩ := r1.get (List.getElem?_eq_getElem k1)
  obtain ⟨v, hv1, rv⟩ := r2.get (List.getElem?_eq_getElem k2)
  have g1 : us.toArray[j] = u := by
    have : us[j]? = some us.toArray[j] := by
      rw [List.getElem?_eq_getElem (by simpa using h1)] <;> simp
    rw [this] at hu1
    exact Option.some.inj hu1
  have g2 : vs.toArray[j] = v := by
    have : vs[j]? = some vs.toArray[j] := by
      rw [List.getElem?_eq_getElem (by simpa using h2)] <;> simp
    rw [this] at hv1
    exact Option.some.inj hv1
  rw [g1, g2]
  exact he j _ _ (List.getElem?_eq_getElem k1) (List.getElem?_eq_getElem k2) pins σ s A u v I ru rv hu
theorem units_in1 (A : Around) : A.in1.units ≤ A.units + 1 := by
  unfold Around.in1
  simp
/-- dict and dict -/
theorem hits_b {A : Around} {s : Shared} {pins : List (Addr × Obj)} {σ : L2.St} (I : L2.Inv X pins σ H s) {ls : List (Key × V)} {vb : List (Key × Value)} (rb : KV ls vb) {ks : List (Key × V)} {va : List (Key × Value)} (ra : KV ks va) (hu : A.units + n < cLine) :
    (∀ p ∈ ks, ∃ y, valV ls p.1 = some y ∧ EqS n X H p.2 y true) → PySem.W.KeqHitsP X.prog X.w A s vb va true := by
  unfold KV at ra
  induction ra with
  | nil => intro _; exact .nil
  | @cons p q ps qs h t ih =>
    intro hp
    obtain ⟨h1, h2⟩ := h
    obtain ⟨z, e, f⟩ := hp p List.mem_cons_self
    have rr : RelO (some z) (valueAt vb p.1) := by rw [← e]; exact rb.val p.1
    obtain ⟨y, hy, ry⟩ := rr.some_of
    obtain ⟨k, v⟩ := q
    have hk : p.1 = k := h1
    rw [hk] at hy
    show PySem.W.KeqHitsP X.prog X.w A s vb ((k, v) :: qs) (true && true)
    exact .hit hy (f pins σ s A v y I h2 ry hu) (ih fun p' hm => hp p' (List.mem_cons_of_mem _ hm))
theorem eqs_dict {a c : Addr} {ks ls : List (Key × V)} (ea : H a = some (.dK ks)) (eb : H c = some (.dK ls)) (hlen : ks.length = ls.length) (hp : ∀ p ∈ ks, ∃ y, valV ls p.1 = some y ∧ EqS n X H p.2 y true) : EqS (n + 2) X H (.ref a) (.ref c) true := fun pins σ s A u v I rx ry hu => by
  cases rx
  cases ry
  by_cases hac : a = c
  · subst hac
    exact (SeqAt.EqAt.same (.ref a)).eqP
  · obtain ⟨_, ya, va, ra, da⟩ := (show ObjOk X.prog X.w H s.heap a (.dK ks) from I.hok a _ ea)
    obtain ⟨_, yb, vb, rb, db⟩ := (show ObjOk X.prog X.w H s.heap c (.dK ls) from I.hok c _ eb)
    have hl : va.length = vb.length := by rw [← ra.length, ← rb.length]; exact hlen
    refine SeqAt.eqP_refs hac fun E Q hq => PySem.W.rcP_dicts (knd := mixKind X.prog X.w) (r := true) ya yb da db (by omega) (fun _ => hits_b I rb ra (by have := units_in1 A; omega) hp) E Q ?_
    simpa [hl] using hq
/-- list != list -/
def rNeL (X : Cx) (n : Nat) : R2 := fun x y H Q => ∃ (p q : Addr) (xs ys : List V) (e : Nat → Bool), x = .ref p ∧ y = .ref q ∧ SqL X.K H p xs ∧ SqL X.K H q ys ∧ xs.length = ys.length ∧ (∀ j a b, xs[j]? = some a → ys[j]? = some b → EqS n X H a b (e j)) ∧ Q (.bl (!(List.range xs.length).all e)) H
theorem op_neL (hu : X.A.units + (n + 1) < cLine) : OpR X (compareOp .NotEq) (rNeL X n) := by
  intro pins s σ H x y v u Q I rx ry h
  obtain ⟨p, q, xs, ys, e, rfl, rfl, hp, hq, hl, he, qq⟩ := h
  cases rx
  cases ry
  obtain ⟨us, r1, pl, _⟩ := I.list hp
  obtain ⟨vs, r2, ql, _⟩ := I.list hq
  have hz : us.toArray.size = vs.toArray.size := by
    rw [List.size_toArray, List.size_toArray, ← r1.length, ← r2.length]
    exact hl
  show wpAny (model X.prog X.w) X.A (richCompare .NotEq (.ref p) (.ref q)) (EP X pins σ Q) X.xe s
  refine SeqAt.lw_ne_lists (e := e) pl.isList ql.isList hz (by omega) (eqs_items I r1 r2 (by have := units_in1 X.A; omega) he) ⟨.bl (!(List.range xs.length).all e), H, I, ?_, qq⟩
  rw [List.size_toArray, ← r1.length]
  rfl
end
end Lw

namespace Lw
open PySem PySem.Spec PyProof.Rows L2
/-! ### a thing == itself -/
def SelfV (x : V) : Prop := (flatV x = true ∧ eqV x x = true) ∨ ∃ a, x = .ref a
def SelfOk (K : PySem.W.Frag) (H : Hp) (v : V) : Prop := (flatV v = true ∧ eqV v v = true) ∨ (∃ d, Dp K H v d ∧ GoodD 4 d) ∨ (∃ a ks, v = .ref a ∧ H a = some (.dK ks) ∧ ∀ p ∈ ks, ∃ y, valV ks p.1 = some y ∧ SameV p.2 y)
def rSelf (K : PySem.W.Frag) : R2 := fun x y H Q => x = y ∧ SelfOk K H x ∧ ∀ H', Ext H H' → Q (.bl true) H'
theorem selfV_str (z : Str) : SelfV (.str z) := .inl ⟨rfl, by simp [eqV]⟩
theorem selfV_int (i : Int) : SelfV (.int i) := .inl ⟨rfl, by simp [eqV]⟩
theorem selfV_bl (b : Bool) : SelfV (.bl b) := .inl ⟨rfl, by simp [eqV]⟩
theorem selfV_non : SelfV .non := .inl ⟨rfl, rfl⟩
theorem SelfOk.ex {K : PySem.W.Frag} {H H' : Hp} {v : V} (e : Evl.Ex H H') (h : SelfOk K H v) : SelfOk K H' v := by
  rcases h with h | ⟨d, h1, h2⟩ | ⟨a, xs, h1, h2, h3⟩
  · exact .inl h
  · exact .inr (.inl ⟨d, dp_ex e _ _ h1, h2⟩)
  · exact .inr (.inr ⟨a, xs, h1, e _ _ h2, h3⟩)
theorem op_eqSelf {X : Cx} (hu : X.A.units + 64 < cLine) : OpR X (compareOp .Eq) (rSelf X.K) := by
  intro pins s σ H x y v u Q I rx ry h
  obtain ⟨rfl, h, q⟩ := h
  rcases h with ⟨f, e⟩ | ⟨d, h1, h2⟩ | ⟨a, ks, rfl, h2, h3⟩
  · refine op_eq pins s σ H x x v u Q I rx ry ?_
    cases x <;> first | (cases f; done) | skip
    all_goals exact ⟨by first | rfl | simp [scal], by rw [decide_eq_true rfl]; exact q H Ext.rfl'⟩
  · refine op_eqD hu pins s σ H x x v u Q I rx ry ⟨d, d, h1, h1, h2.shaped (by decide), h2.shaped (by decide), ?_⟩
    rw [SeqAt.eqv_refl d h2.1]
    exact q H Ext.rfl'
  · cases rx
    cases ry
    obtain ⟨_, ya, va, ra, da⟩ := (show ObjOk X.prog X.w H s.heap a (.dK ks) from I.hok a _ h2)
    exact PySem.W.keq_eq (knd := mixKind X.prog X.w) (r := true) ya ya da da (by omega) (fun _ => hits_same ra ra h3) ⟨.bl true, H, I, by show Value.bool (va.length == va.length && true) = Value.bool true; simp, q H Ext.rfl'⟩
theorem k_eqSelf {X : Cx} (K : PySem.W.Frag) (hu : X.A.units + 64 < cLine) (h : X.K = K := by rfl) : OpR X (compareOp .Eq) (rSelf K) := by
  subst h
  exact op_eqSelf hu
/-! ### drawing from wider ranges -/
def sp_drawW : Sp := fun vs H Q _ => ∃ (st : Addr) (size : Int) (n : Nat), vs = [.ref st, .int size] ∧ DS H st n ∧ n ≤ 1000000000 ∧ 0 < size ∧ size ≤ 100000000000000000000 ∧
  ∀ (d : Int) (H' : Hp), 0 ≤ d → d < size → DS H' st (n + 1) → Kp st H H' → Q (.int d) H'
theorem sp_draw_W {vs : List V} {H : Hp} {Q : VK} {E : XK} (h : sp_draw vs H Q E) : sp_drawW vs H Q E := by
  obtain ⟨st, size, n, h1, h2, h3, h4, h5, h6⟩ := h
  exact ⟨st, size, n, h1, h2, h3, h4, by omega, h6⟩
theorem wide20 {b size : Int} (h0 : 0 < size) (h1 : size ≤ 100000000000000000000) : CDivW b size := wide_div (b := 70) h0 (by have : (2 : Nat) ^ 70 = 1180591620717411303424 := by decide
                                                                                                                              omega) (by decide) (by decide)
/-! ### values that stand apart from the state and are equal to themselves -/
def Ce (st : Addr) (H : Hp) (v : V) : Prop := (∃ a xs, v = .ref a ∧ Ap H st a (.tup xs) ∧ ∀ x ∈ xs, It1 st H x) ∨ (∃ z, v = .str z) ∨ v = .non ∨ (∃ b, v = .bl b) ∨ (∃ i, v = .int i) ∨ (∃ a xs, v = .ref a ∧ Ap H st a (.lst xs) ∧ ∀ x ∈ xs, It1 st H x) ∨ (∃ a kvs, v = .ref a ∧ Ap H st a (.dK kvs) ∧ ∀ p ∈ kvs, ∃ y, valV kvs p.1 = some y ∧ SameV p.2 y)
theorem Ce.kp {st : Addr} {H H' : Hp} {v : V} (k : Kp st H H') (h : Ce st H v) : Ce st H' v := by
  rcases h with ⟨a, xs, h1, h2, h3⟩ | h | h | h | h | ⟨a, xs, h1, h2, h3⟩ | ⟨a, xs, h1, h2, h3⟩
  · exact .inl ⟨a, xs, h1, k _ _ h2, fun x hx => (h3 x hx).kp k⟩
  · exact .inr (.inl h)
  · exact .inr (.inr (.inl h))
  · exact .inr (.inr (.inr (.inl h)))
  · exact .inr (.inr (.inr (.inr (.inl h))))
  · exact .inr (.inr (.inr (.inr (.inr (.inl ⟨a, xs, h1, k _ _ h2, fun x hx => (h3 x hx).kp k⟩)))))
  · exact .inr (.inr (.inr (.inr (.inr (.inr ⟨a, xs, h1, k _ _ h2, h3⟩)))))
theorem Ce.cd {st : Addr} {H : Hp} {v : V} (h : Ce st H v) : Cd st H v := by
  rcases h with h | h | h | h | h | ⟨a, xs, h1, h2, h3⟩ | ⟨a, xs, h1, h2, h3⟩
  · exact .inl h
  · exact .inr (.inl h)
  · exact .inr (.inr (.inl h))
  · exact .inr (.inr (.inr (.inl h)))
  · exact .inr (.inr (.inr (.inr (.inl h))))
  · exact .inr (.inr (.inr (.inr (.inr (.inl ⟨a, xs, h1, h2⟩)))))
  · exact .inr (.inr (.inr (.inr (.inr (.inr ⟨a, xs, h1, h2⟩)))))
theorem Ce.self {K : PySem.W.Frag} {st : Addr} {H : Hp} {v : V} (h : Ce st H v) : SelfOk K H v := by
  rcases h with ⟨a, xs, rfl, h2, h3⟩ | ⟨z, rfl⟩ | rfl | ⟨b, rfl⟩ | ⟨i, rfl⟩ | ⟨a, xs, rfl, h2, h3⟩ | ⟨a, kvs, rfl, h2, h3⟩
  · obtain ⟨ds, hd, hg⟩ := its_dp (K := K) h3
    exact .inr (.inl ⟨.tuple ds, .tup (Evl.st_of h2.1) hd, (good_tuple hg).mono (by decide)⟩)
  · exact .inl ⟨rfl, by simp [eqV]⟩
  · exact .inl ⟨rfl, rfl⟩
  · exact .inl ⟨rfl, by simp [eqV]⟩
  · exact .inl ⟨rfl, by simp [eqV]⟩
  · obtain ⟨ds, hd, hg⟩ := its_dp (K := K) h3
    have hgt := (good_tuple hg).mono (m := 4) (by decide)
    exact .inr (.inl ⟨.list ds, .lst (Evl.sq_of h2.1) hd, by simpa [PyData.canLay0] using hgt.1, by simpa [PyData.depth] using hgt.2⟩)
  · exact .inr (.inr ⟨a, kvs, rfl, h2.1, h3⟩)
end Lw

namespace Lw
open PySem PySem.Spec PyProof.Rows L2
/-! ### amounts: whole numbers, and the values that are none -/
def whole (v : V) (low : Int) : Bool := match v with
  | .int i => decide (low ≤ i)
  | _ => false
def isBl (v : V) : Bool := match v with
  | .bl _ => true
  | _ => false
def isIn (v : V) : Bool := match v with
  | .bl _ => true
  | .int _ => true
  | _ => false
def AmX (H : Hp) (v : V) : Prop := (∃ i, v = .int i) ∨ (∃ b, v = .bl b) ∨ v = .non ∨ (∃ z, v = .str z) ∨ ∃ t, v = .ref t ∧ H t = some (.tup [])
def AmS (st : Addr) (H : Hp) (v : V) : Prop := (∃ i, v = .int i) ∨ (∃ b, v = .bl b) ∨ v = .non ∨ (∃ z, v = .str z) ∨ ∃ t, v = .ref t ∧ Ap H st t (.tup [])
theorem AmX.ex {H H' : Hp} {v : V} (e : Evl.Ex H H') (h : AmX H v) : AmX H' v := by
  rcases h with h | h | h | h | ⟨t, h1, h2⟩
  · exact .inl h
  · exact .inr (.inl h)
  · exact .inr (.inr (.inl h))
  · exact .inr (.inr (.inr (.inl h)))
  · exact .inr (.inr (.inr (.inr ⟨t, h1, e _ _ h2⟩)))
theorem AmS.kp {st : Addr} {H H' : Hp} {v : V} (k : Kp st H H') (h : AmS st H v) : AmS st H' v := by
  rcases h with h | h | h | h | ⟨t, h1, h2⟩
  · exact .inl h
  · exact .inr (.inl h)
  · exact .inr (.inr (.inl h))
  · exact .inr (.inr (.inr (.inl h)))
  · exact .inr (.inr (.inr (.inr ⟨t, h1, k _ _ h2⟩)))
theorem AmS.x {st : Addr} {H : Hp} {v : V} (h : AmS st H v) : AmX H v := by
  rcases h with h | h | h | h | ⟨t, h1, h2⟩
  · exact .inl h
  · exact .inr (.inl h)
  · exact .inr (.inr (.inl h))
  · exact .inr (.inr (.inr (.inl h)))
  · exact .inr (.inr (.inr (.inr ⟨t, h1, h2.1⟩)))
theorem AmX.same {H : Hp} {v : V} (h : AmX H v) : SameV v v := by
  rcases h with ⟨i, rfl⟩ | ⟨b, rfl⟩ | rfl | ⟨z, rfl⟩ | ⟨t, rfl, _⟩
  · exact .inl ⟨rfl, rfl, by simp [eqV]⟩
  · exact .inl ⟨rfl, rfl, by simp [eqV]⟩
  · exact .inl ⟨rfl, rfl, rfl⟩
  · exact .inl ⟨rfl, rfl, by simp [eqV]⟩
  · exact .inr ⟨t, rfl, rfl⟩
theorem whole_int {v : V} {low : Int} (h : whole v low = true) : ∃ i, v = .int i ∧ low ≤ i := by
  cases v with
  | int i => exact ⟨i, rfl, of_decide_eq_true h⟩
  | _ => cases h
theorem AmX.ty {K : PySem.W.Frag} {H : Hp} {v : V} (h : AmX H v) : ∃ t, TyX K H v (.type t) ∧ PySem.W.kitOne K (.type t) (.type "bool") = some (isBl v) ∧ PySem.W.kitOne K (.type t) (.type "int") = some (isIn v) := by
  rcases h with ⟨i, rfl⟩ | ⟨b, rfl⟩ | rfl | ⟨z, rfl⟩ | ⟨t, rfl, h2⟩
  · exact ⟨_, .base (.int i), kit_ty (r := false) (by decide +kernel), kit_ty (r := true) (by decide +kernel)⟩
  · exact ⟨_, .base (.bl b), kit_ty (r := true) (by decide +kernel), kit_ty (r := true) (by decide +kernel)⟩
  · exact ⟨_, .base .non, kit_ty (r := false) (by decide +kernel), kit_ty (r := false) (by decide +kernel)⟩
  · exact ⟨_, .base (.str z), kit_ty (r := false) (by decide +kernel), kit_ty (r := false) (by decide +kernel)⟩
  · exact ⟨_, .base (.tup h2), kit_ty (r := false) (by decide +kernel), kit_ty (r := false) (by decide +kernel)⟩
theorem rc_isB {K : PySem.W.Frag} {H : Hp} {v : V} (h : AmX H v) : Evl.RC (rIsi K) [v, .ty "bool"] H (.bl (isBl v)) := fun H1 e Q q => by
  obtain ⟨t, h1, h2, h3⟩ := (h.ex e).ty (K := K)
  exact ⟨v, .ty "bool", .type t, .type "bool", _, rfl, .ty _, h1, h2, q H1 (Evl.Ex.refl _)⟩
theorem rc_isI {K : PySem.W.Frag} {H : Hp} {v : V} (h : AmX H v) : Evl.RC (rIsi K) [v, .ty "int"] H (.bl (isIn v)) := fun H1 e Q q => by
  obtain ⟨t, h1, h2, h3⟩ := (h.ex e).ty (K := K)
  exact ⟨v, .ty "int", .type t, .type "int", _, rfl, .ty _, h1, h3, q H1 (Evl.Ex.refl _)⟩
theorem whole_of (v : V) (low : Int) : whole v low = (isIn v && (!isBl v && whole v low)) := by
  cases v <;> simp [whole, isIn, isBl]
theorem int_of {v : V} (h1 : isIn v = true) (h2 : isBl v = false) : ∃ i, v = .int i := by
  cases v with
  | int i => exact ⟨i, rfl⟩
  | bl b => cases h2
  | _ => cases h1
def sp_odd : Sp := fun vs H Q _ => ∃ (st : Addr) (n : Nat), vs = [.ref st] ∧ DS H st n ∧ n ≤ 900000000 ∧ ∀ (v : V) (H' : Hp), DS H' st (n + 1) → Kp st H H' → AmS st H' v → Q v H'
def sp_from : Sp := fun vs H Q _ => ∃ (v : V) (low : Int), vs = [v, .int low] ∧ AmX H v ∧ ∀ H', Evl.Ex H H' → Q (.bl (whole v low)) H'
def sp_whole : Sp := fun vs H Q _ => ∃ (v : V) (low : Int), vs = [v, .int low, .non] ∧ AmX H v ∧ ∀ H', Evl.Ex H H' → Q (.bl (whole v low)) H'
/-! ### dicts with texts for keys -/
def KD (kvs : List (Key × V)) (ks : List Str) : Prop := kvs.map (·.1) = ks.map Sum.inr
def addK (ks : List Str) (s : Str) : List Str := if s ∈ ks then ks else ks ++ [s]
theorem addK_mem {ks : List Str} {s x : Str} : x ∈ addK ks s ↔ x ∈ ks ∨ x = s := by
  unfold addK
  split
  · constructor
    · exact .inl
    · rintro (h | rfl)
      · exact h
      · assumption
  · simp
theorem addK_nd {ks : List Str} {s : Str} (h : ks.Nodup) : (addK ks s).Nodup := by
  unfold addK
  split
  · exact h
  · exact nd_snoc h (by assumption)
theorem addK_len {ks : List Str} {s : Str} : (addK ks s).length ≤ ks.length + 1 := by
  unfold addK
  split
  · omega
  · simp
theorem KD.len {kvs : List (Key × V)} {ks : List Str} (h : KD kvs ks) : kvs.length = ks.length := by
  have := congrArg List.length h
  simpa using this
theorem KD.key {kvs : List (Key × V)} {ks : List Str} (h : KD kvs ks) {p : Key × V} (hp : p ∈ kvs) : ∃ s ∈ ks, p.1 = .inr s := by
  have : p.1 ∈ kvs.map (·.1) := List.mem_map_of_mem hp
  rw [h] at this
  obtain ⟨s, h1, h2⟩ := List.mem_map.mp this
  exact ⟨s, h1, h2.symm⟩
theorem KD.at {kvs : List (Key × V)} {ks : List Str} (h : KD kvs ks) {s : Str} (hs : s ∈ ks) : ∃ v, valV kvs (.inr s) = some v ∧ ∃ p ∈ kvs, p.2 = v := by
  cases hv : valV kvs (.inr s) with
  | none =>
    have : (Sum.inr s : Key) ∈ kvs.map (·.1) := by
      rw [h]
      exact List.mem_map_of_mem hs
    exact absurd this (valV_not hv)
  | some v =>
    refine ⟨v, rfl, ?_⟩
    unfold valV at hv
    obtain ⟨p, h1, h2⟩ := Option.map_eq_some_iff.mp hv
    exact ⟨p, List.mem_of_find?_eq_some h1, h2⟩
theorem KD.put {kvs : List (Key × V)} {ks : List Str} (h : KD kvs ks) (s : Str) (v : V) : KD (putK kvs (.inr s) v) (addK ks s) := by
  unfold KD putK addK
  have e : (kvs.any fun kv => decide (kv.1 = (.inr s : Key))) = decide (s ∈ ks) := by
    rw [Bool.eq_iff_iff, List.any_eq_true, decide_eq_true_iff]
    constructor
    · rintro ⟨p, hp, e⟩
      obtain ⟨z, hz, e2⟩ := h.key hp
      have := of_decide_eq_true e
      rw [e2] at this
      cases this
      exact hz
    · intro hs
      have : (Sum.inr s : Key) ∈ kvs.map (·.1) := by
        rw [h]
        exact List.mem_map_of_mem hs
      obtain ⟨p, hp, e⟩ := List.mem_map.mp this
      exact ⟨p, hp, decide_eq_true e⟩
  rw [e]
  by_cases hs : s ∈ ks
  · rw [if_pos (decide_eq_true hs), if_pos hs, ← h, List.map_map]
    refine List.map_congr_left fun p hp => ?_
    show (if p.1 = .inr s then (p.1, v) else p).1 = p.1
    split <;> rfl
  · rw [if_neg (by simpa using hs), if_neg hs, List.map_append, List.map_append, ← h]
    rfl
theorem put_mem {kvs : List (Key × V)} {k : Key} {v : V} {p : Key × V} (h : p ∈ putK kvs k v) : p ∈ kvs ∨ p.2 = v := by
  unfold putK at h
  split at h
  · obtain ⟨q, hq, e⟩ := List.mem_map.mp h
    by_cases hk : q.1 = k
    · rw [if_pos hk] at e
      exact .inr (by rw [← e])
    · rw [if_neg hk] at e
      exact .inl (by rw [← e]; exact hq)
  · rcases List.mem_append.mp h with h | h
    · exact .inl h
    · rw [List.mem_singleton.mp h]
      exact .inr rfl
theorem KD.val {kvs : List (Key × V)} {ks : List Str} (h : KD kvs ks) (hn : ks.Nodup) {p : Key × V} (hp : p ∈ kvs) : valV kvs p.1 = some p.2 := by
  have hn' : (kvs.map (·.1)).Nodup := by
    rw [h]
    exact List.Pairwise.map _ (fun a b (hne : a ≠ b) e => hne (Sum.inr.inj e)) hn
  clear h hn
  induction kvs with
  | nil => cases hp
  | cons q r ih =>
    rw [List.map_cons] at hn'
    obtain ⟨h1, h2⟩ := List.nodup_cons.mp hn'
    rcases List.mem_cons.mp hp with rfl | hp
    · exact valV_pos rfl
    · rw [valV_neg fun e => h1 (by rw [e]; exact List.mem_map_of_mem hp)]
      exact ih hp h2
theorem lookK {kvs : List (Key × V)} {k j : Key} {y : V} : valV (putK kvs k y) j = if j = k then some y else valV kvs j := valV_put kvs k j y
def sp_costs (K : PySem.W.Frag) : Sp := fun vs H Q _ => ∃ (st g : Addr) (n : Nat) (ws : List Str) (scale : Int), vs = [.ref st, .ref g, .int scale] ∧ DS H st n ∧ n ≤ 800000000 ∧ SqL K H g (ws.map V.str) ∧ ws.length ≤ 1000 ∧ 0 < scale ∧ scale ≤ 100000000000000000000 ∧
  ∀ (d : Addr) (kvs : List (Key × V)) (ks : List Str) (H' : Hp), DS H' st (n + 2 * ws.length) → Kp st H H' → (∀ b o, Ap H st b o → b ≠ d) → Ap H' st d (.dK kvs) → KD kvs ks → ks.Nodup → ks.length ≤ ws.length → (∀ s, s ∈ ks ↔ s ∈ ws) → (∀ p ∈ kvs, ∃ i, p.2 = .int i) → Q (.ref d) H'
end Lw

namespace Lw
open PySem PySem.Spec PyProof.Rows L2
section
variable {X : Cx} {CX : CXT} {k n : Nat} {f C : Addr} {fd : FuncData} {ps ks : List Str} {sp : Sp} {x m : Str} {p pos apos : Pos} {e o : Expr} {es : List Expr} {kws : List Keyword} {t tk : TA} {ta : TE} {g : List Value → List Value → List Value} {gV : List V → List V → List V}
/-- what a call lets out is what the def lets out -/
theorem passUp {E : XK} {W : WX} (tk : Takes X W) (h : ∀ cls d σ H, E cls d H → W cls d σ H) : Passes (L2.CX X.prog X.w) X E := passes_call tk h
/-- o.f inside of a block -/
theorem k_fld (K : PySem.W.Frag) (he : PE X e ta) (hb : attributeBase e m X.env (eval e X.env) = eval e X.env) (h : X.K = K := by rfl) : PE X (.Attribute e m pos) (tFld K ta m) := by
  subst h
  exact pe_fld he hb
/-- isinstance inside of an except's suite -/
theorem k_isi (K : PySem.W.Frag) (h : X.K = K := by rfl) : CallR X (.builtin "isinstance") (rIsi K) := by
  subst h
  exact call_isi
/-- what C(e, .., k = v, ..) says, inside of a try -/
def tMakeS (C : Addr) (n m : Nat) (sp : Sp) (gV : List V → List V → List V) (E : L2.St → XK) (t tk : TA) : TE := fun σ H Q => t σ H fun vs H1 => tk σ H1 fun zs H2 => vs.length = n ∧ zs.length = m ∧ ∀ y dx, H2 y = none → H2 dx = none → dx ≠ y →
  sp (gV (.ref y :: vs) zs) (upd (upd H2 dx (.own y)) y (.ins C dx [])) (fun v H3 => v = .non ∧ Q (.ref y) H3) (E σ)
theorem pe_makeS {E : L2.St → XK} (M : Mk X.K C f) (F : FnOk X.prog X.w X.K X.mg X.base CX k f fd ps sp) (hr : Room (k + 1) X.A) (hg : Gl X x) (hm : X.mg x = some (.ref C)) (hb : KBn X.K fd ps (n + 1) ks g gV) (hx : ∀ σ, PassesAt CX X σ (E σ)) (ha : PA X (e :: es) t) (hkw : PK X kws tk)
    (h1 : (backToKw pos (keywordEach kws X.env)).all (·.1.isSome) = true := by rfl) (h2 : (backToKw pos (keywordEach kws X.env)).filterMap (·.1) = ks := by rfl) (h3 : (x == ("__debug__" : Str)) = false := by decide)
    (h4 : starEach (e :: es) X.env = (false, eval e X.env) :: starEach es X.env := by rfl) (h5 : ((backTo pos (starEach (e :: es) X.env)).any (·.1) || (backToKw pos (keywordEach kws X.env)).any (·.1.isNone)) = false := by rfl) :
    PE X (.Call (.Name x p) (e :: es) kws pos) (tMakeS C n ks.length sp gV E t tk) := by
  constructor
  intro pins s σ H Q I h
  refine wpAny_Call_Name_kw (ld_glob I hg hm ?_ h3)
  refine PySem.W.callWith_KW (h₀ := X.base) I.ok.mod.kin M.kp h1 (thn (ha.run pos pins s σ H _ I h) fun us s1 ⟨vs, H1, I1, r, q⟩ => thn (hkw.run pos pins s1 σ H1 _ I1 q) fun ws s2 ⟨zs, H2, I2, rz, l1, l2, q2⟩ => ⟨I2.kIn, ?_⟩) h5 h4
  rw [h2]
  have q9 := q2 (s2.heap.objs.size + 1) s2.heap.objs.size (I2.hok.fresh (Nat.le_succ _)) (I2.hok.fresh (Nat.le_refl _)) (Nat.ne_of_lt (Nat.lt_succ_self _))
  have I3 := Inv.made (C := C) I2
  have r1 : Vals (V.ref (s2.heap.objs.size + 1) :: vs) (Value.ref (s2.heap.objs.size + 1) :: us) := .cons rfl r
  have n1 : (Value.ref (s2.heap.objs.size + 1) :: us).length = n + 1 := by
    rw [List.length_cons, ← r.length, l1]
  refine wpAny_call (make_map (f := f) I2.kIn M.makes M.init (beq_iff_eq.mp M.fn) (codeAny_mono (F.run _ X.stack _ _ ⟨Value.ref (s2.heap.objs.size + 1) :: us, ks.zip ws⟩ (g (Value.ref (s2.heap.objs.size + 1) :: us) ws) _ _ (E σ) (hr.make C us (ks.zip ws)) (I3.env0.make C us (ks.zip ws)) (hb.to _ (Value.ref (s2.heap.objs.size + 1) :: us) ws I3.kIn n1 (rz.length.symm.trans l2)) (hb.rel r1 rz) q9) fun r s' hq' => ?_))
  cases r with
  | error er => exact hx σ pins _ _ er s' I3 hq'
  | ok fl =>
    cases fl with
    | ret u =>
      obtain ⟨v, H', I4, rv, ev, q3⟩ := I3.after hq'
      cases ev
      exact ⟨rv, V.ref (s2.heap.objs.size + 1), H', I4, rfl, q3⟩
    | next => cases hq'
    | brk => cases hq'
    | cont => cases hq'
/-- o.m(e, ..), inside of a try -/
def tMethS (C : Addr) (m : Str) (sp : Sp) (E : L2.St → XK) (ta : TE) (t : TA) : TE := fun σ H Q => ta σ H fun x H1 => ∃ a dx fs, x = .ref a ∧ H1 a = some (.ins C dx fs) ∧ fs.lookup m = none ∧ t σ H1 fun vs H2 => sp (x :: vs) H2 Q (E σ)
theorem pe_methS {pl : Sem Bool} {E : L2.St → XK} (he : PE X o ta) (c : Cls X.K C) (hm : Meth X.K C m f) (F : FnOk X.prog X.w X.K X.mg X.base CX k f fd ps sp) (hr : Room k X.A) (hb : Binds X.K fd ps []) (hx : ∀ σ, PassesAt CX X σ (E σ)) (ha : PA X (e :: es) t)
    (h1 : starEach (e :: es) X.env = (false, eval e X.env) :: starEach es X.env := by rfl) (h2 : (backTo pos (starEach es X.env)).any (·.1) = false := by rfl)
    (h3 : eval (.Call (.Attribute o m apos) (e :: es) [] pos) X.env = (do let ov ← eval o X.env; standAt apos.atName; let (f, first) ← holding [ov] (getMethod ov m pl); callWith pos f first (backTo pos (starEach (e :: es) X.env)) (backToKw pos (keywordEach [] X.env))) := by rfl) :
    PE X (.Call (.Attribute o m apos) (e :: es) [] pos) (tMethS C m sp E ta t) := by
  constructor
  intro pins s σ H Q I h
  refine PySem.W.methodCall_KW (pl := pl) (thn (he.run pins s σ H _ I h) fun u s1 ⟨x, H1, I1, rx, a, dx, fs, ex, ea, l, q⟩ => ?_) h3
  cases ex
  cases rx
  refine getmeth_ok I1 ea c hm l (PySem.W.callWith_K (first := [.ref a]) (h₀ := X.base) I.ok.mod.kin hm.kp (thn (ha.run pos pins s1 σ H1 _ I1 q) fun us s2 ⟨vs, H2, I2, r, q2⟩ => ⟨I2.kIn, ?_⟩) h1 h2)
  exact run_fnS (us := .ref a :: us) (vs := .ref a :: vs) F hr hb (hx σ) I2 (.cons rfl r) q2
/-- o.m(k = v, ..) -/
def tMethK (C : Addr) (m : Str) (sp : Sp) (gV : List V → List V → List V) (E : XK) (ta : TE) (tk : TA) : TE := fun σ H Q => ta σ H fun x H1 => ∃ a dx fs, x = .ref a ∧ H1 a = some (.ins C dx fs) ∧ fs.lookup m = none ∧ tk σ H1 fun zs H2 => sp (gV [x] zs) H2 Q E
theorem pe_methK {pl : Sem Bool} {E : XK} (he : PE X o ta) (c : Cls X.K C) (hm : Meth X.K C m f) (F : FnOk X.prog X.w X.K X.mg X.base CX k f fd ps sp) (hr : Room k X.A) (hb : KBinds X.K fd ps ks g gV) (hx : Passes CX X E) (hkw : PK X kws tk)
    (h1 : (backToKw pos (keywordEach kws X.env)).all (·.1.isSome) = true := by rfl) (h2 : (backToKw pos (keywordEach kws X.env)).filterMap (·.1) = ks := by rfl)
    (h3 : eval (.Call (.Attribute o m apos) [] kws pos) X.env = (do let ov ← eval o X.env; standAt apos.atName; let (f, first) ← holding [ov] (getMethod ov m pl); callWith pos f first (backTo pos (starEach [] X.env)) (backToKw pos (keywordEach kws X.env))) := by rfl)
    (h5 : ((backTo pos (starEach [] X.env)).any (·.1) || (backToKw pos (keywordEach kws X.env)).any (·.1.isNone)) = false := by rfl) :
    PE X (.Call (.Attribute o m apos) [] kws pos) (tMethK C m sp gV E ta tk) := by
  constructor
  intro pins s σ H Q I h
  refine PySem.W.methodCall_KW (pl := pl) (thn (he.run pins s σ H _ I h) fun u s1 ⟨x, H1, I1, rx, a, dx, fs, ex, ea, l, q⟩ => ?_) h3
  cases ex
  cases rx
  refine getmeth_ok I1 ea c hm l (PySem.W.callWith_KW0 (first := [.ref a]) (h₀ := X.base) I.ok.mod.kin hm.kp h1 (thn (hkw.run pos pins s1 σ H1 _ I1 q) fun ws s2 ⟨zs, H2, I2, rz, q2⟩ => ⟨I2.kIn, ?_⟩) h5)
  rw [h2]
  exact run_fnk (us := [.ref a]) (vs := [.ref a]) F hr hb hx I2 (.cons rfl .nil) rz q2
end
end Lw

namespace Lw
open PySem PySem.Spec PyProof.Rows L2
/-! ### in order: one list alone -/
theorem rising_pw : ∀ (r : List Str) (p : Str), risingS p r = true → (p :: r).Pairwise fun a b => decide (a.cps.toList ≤ b.cps.toList) = true
  | [], p, _ => List.pairwise_singleton _ _
  | x :: r, p, h => by
    have h : (!ltCps x.cps.toList p.cps.toList && risingS x r) = true := h
    rw [Bool.and_eq_true, ltCps_eq] at h
    have ih := rising_pw r x h.2
    have hpx : p.cps.toList ≤ x.cps.toList := by
      have h1 := h.1
      simp only [Bool.not_eq_true', decide_eq_false_iff_not] at h1
      exact List.not_lt.mp h1
    refine List.pairwise_cons.mpr ⟨fun y hy => ?_, ih⟩
    rcases List.mem_cons.mp hy with rfl | hy
    · exact decide_eq_true hpx
    · exact decide_eq_true (List.le_trans hpx (of_decide_eq_true ((List.pairwise_cons.mp ih).1 y hy)))
theorem srt_only {ys ks : List Str} (hp : ys.Perm ks) (hs : sortedS ys = true) : ys = srt ks := by
  have hw : ys.Pairwise fun a b => decide (a.cps.toList ≤ b.cps.toList) = true := by
    cases ys with
    | nil => exact .nil
    | cons x r => exact rising_pw r x hs
  refine List.Perm.eq_of_pairwise (fun a b _ _ h1 h2 => ?_) hw (srt_sorted ks) (hp.trans (srt_perm ks).symm)
  have e := List.le_antisymm (of_decide_eq_true h1) (of_decide_eq_true h2)
  cases a with
  | mk a =>
    cases b with
    | mk b => exact congrArg Str.mk (Array.ext' e)
theorem gres_tw {ks : List Str} (hn : ks.Nodup) (s : Str) : gres (srt ks) ≠ .tw s := by
  have hn' := (srt_perm ks).nodup_iff.mpr hn
  revert hn'
  generalize srt ks = ws
  intro hn' h
  unfold gres at h
  split at h
  · cases h
  have key : ∀ (r seen : List Str), (seen ++ r).Nodup → scan seen r ≠ .tw s := by
    intro r
    induction r with
    | nil => intro seen _ h; cases h
    | cons x r ih =>
      intro seen hnd h
      unfold scan at h
      split at h
      · cases h
      · split at h
        · rename_i h2
          exact (List.nodup_append.mp hnd).2.2 x h2 x List.mem_cons_self rfl
        · exact ih (seen ++ [x]) (by simpa using hnd) h
  exact key ws [] (by simpa using hn') h
/-! ### a dict made by a comprehension -/
section
variable {J : L2.It} {n : Nat} {G : Hp → Prop} {Y : Nat → Hp → V → Hp → Prop}
theorem dc_it (w : Walk J n G Y) {g : TG} {tt : TT} {tk tv : TE} {vs : List Nat} {σ : L2.St} {H1 : Hp} {D : Addr} {Qd : Hp → Prop} (Pv : Nat → Hp → Prop) (h0 : Pv 0 (upd H1 D (.dK []))) (hG : ∀ i H, i ≤ n → Pv i H → G H)
    (hs : ∀ i x H H', i < n → Pv i H → Y i H x H' → g x (wipe σ vs) H' fun σ2 H2 => wipe σ2 vs = wipe σ vs ∧ tt σ2 H2 fun b H3 => if b = true then tk σ2 H3 fun y H4 => tv σ2 H4 fun z H5 => ∃ kvs k, y = kV k ∧ H5 D = some (.dK kvs) ∧ kvs.length < sizeLine ∧ Pv (i + 1) (upd H5 D (.dK (putK kvs k z))) else Pv (i + 1) H3)
    (hd : ∀ H, Pv n H → Qd H) :
    ∃ W : Nat → Nat → Hp → Prop, (∃ m, W 0 m (upd H1 D (.dK []))) ∧ ∀ i m H, W i m H → (J.stop i H ∧ Qd H) ∨ (J.go i H ∧ ∃ Nx : Hp → Prop, (∀ H', Nx H' → ∃ m', m' < m ∧ W (i + 1) m' H') ∧ ∀ x H', J.yld i H x H' → g x (wipe σ vs) H' fun σ2 H2 => wipe σ2 vs = wipe σ vs ∧ tt σ2 H2 fun b H3 =>
      if b = true then tk σ2 H3 fun y H4 => tv σ2 H4 fun z H5 => ∃ kvs k, y = kV k ∧ H5 D = some (.dK kvs) ∧ kvs.length < sizeLine ∧ Nx (upd H5 D (.dK (putK kvs k z))) else Nx H3) := by
  refine ⟨fun i m H => m = n - i ∧ i ≤ n ∧ Pv i H, ⟨n, rfl, Nat.zero_le _, h0⟩, fun i m H h => ?_⟩
  obtain ⟨rfl, hi, p⟩ := h
  rcases Nat.lt_or_ge i n with hlt | hge
  · exact .inr ⟨w.goes i H hlt (hG i H hi p), Pv (i + 1), fun H' p' => ⟨n - (i + 1), by omega, rfl, hlt, p'⟩, fun x H' y => hs i x H H' hlt p (w.yields i H x H' hlt (hG i H hi p) y)⟩
  · obtain rfl : i = n := by omega
    exact .inl ⟨w.stops H (hG _ H hi p), hd H p⟩
end
/-! ### what becomes of prices -/
inductive PR where
  | cnt | nm (s : Str) | tw (s : Str) | price (v : V) | unit | ok
def amt (kvs : List (Key × V)) (s : Str) : V := (valV kvs (.inr s)).getD .non
def firstBad (kvs : List (Key × V)) : List Str → Option V
  | [] => none
  | s :: r => if whole (amt kvs s) 0 = true then firstBad kvs r else some (amt kvs s)
def pres (kvs : List (Key × V)) (ws : List Str) (u : V) : PR := match gres ws with
  | .cnt => .cnt
  | .nm s => .nm s
  | .tw s => .tw s
  | .ok => match firstBad kvs ws with
    | some v => .price v
    | none => if whole u 1 = true then .ok else .unit
theorem firstBad_none {kvs : List (Key × V)} : ∀ {ws : List Str}, firstBad kvs ws = none → ∀ s ∈ ws, whole (amt kvs s) 0 = true
  | [], _, s, hs => by cases hs
  | x :: r, h, s, hs => by
    unfold firstBad at h
    split at h
    · rcases List.mem_cons.mp hs with rfl | hs
      · assumption
      · exact firstBad_none h s hs
    · cases h
theorem firstBad_drop {kvs : List (Key × V)} {ws : List Str} {i : Nat} {s : Str} (h : ws[i]? = some s) : firstBad kvs (ws.drop i) = if whole (amt kvs s) 0 = true then firstBad kvs (ws.drop (i + 1)) else some (amt kvs s) := by
  obtain ⟨hi, e⟩ := List.getElem?_eq_some_iff.mp h
  rw [List.drop_eq_getElem_cons hi, e, firstBad]
theorem KD.amtV {kvs : List (Key × V)} {ks : List Str} (h : KD kvs ks) {s : Str} (hs : s ∈ ks) : valV kvs (.inr s) = some (amt kvs s) := by
  obtain ⟨v, h1, _⟩ := h.at hs
  unfold Lw.amt
  rw [h1]
  rfl
theorem KD.amX {kvs : List (Key × V)} {ks : List Str} {H : Hp} (h : KD kvs ks) (ha : ∀ p ∈ kvs, AmX H p.2) {s : Str} (hs : s ∈ ks) : AmX H (amt kvs s) := by
  obtain ⟨v, h1, p, hp, e⟩ := h.at hs
  unfold Lw.amt
  rw [h1]
  rw [← e]
  exact ha p hp
/-- the same keys and values -/
def SameD (kvs2 kvs : List (Key × V)) (ks : List Str) : Prop := ∃ ks2, KD kvs2 ks2 ∧ ks2.Nodup ∧ (∀ s, s ∈ ks2 ↔ s ∈ ks) ∧ ∀ s ∈ ks, valV kvs2 (.inr s) = valV kvs (.inr s)
def FrX (x : Addr) (H H1 : Hp) : Prop := ∀ b o, H b = some o → b ≠ x → H1 b = some o
theorem FrX.ex {x : Addr} {H H1 H2 : Hp} (h : FrX x H H1) (e : Evl.Ex H1 H2) : FrX x H H2 := fun b o hb hn => e _ _ (h b o hb hn)
theorem FrX.put {x : Addr} {H H1 : Hp} {o : HO} (h : FrX x H H1) : FrX x H (upd H1 x o) := fun b u hb hn => by
  rw [upd_ne hn]
  exact h b u hb hn
theorem FrX.refl (x : Addr) (H : Hp) : FrX x H H := fun _ _ h _ => h
def prF (g m : Addr) (u : V) : List (Str × V) := [("_goods", .ref g), ("_amounts", .ref m), ("_unit", u)]
/-- the errors of prices -/
structure CPs where
  (CP CB CN CD CA CU : Addr)
def initAt (c : CPs) (x dx : Addr) (kvs : List (Key × V)) (ks : List Str) (u : V) (H : Hp) (Q : VK) (E : XK) : Prop := match pres kvs (srt ks) u with
  | .cnt => ∀ H1 d, FrX x H H1 → H1 d = some (.xd [("count", .int (ks.length : Int))]) → E (.ref c.CB) (some d) H1
  | .nm s => ∀ H1 d, FrX x H H1 → H1 d = some (.xd [("name", .str s)]) → E (.ref c.CN) (some d) H1
  | .tw s => ∀ H1 d, FrX x H H1 → H1 d = some (.xd [("name", .str s)]) → E (.ref c.CD) (some d) H1
  | .price v => ∀ H1 d, FrX x H H1 → H1 d = some (.xd [("price", v)]) → E (.ref c.CA) (some d) H1
  | .unit => ∀ H1 d, FrX x H H1 → H1 d = some (.xd [("value", u)]) → E (.ref c.CU) (some d) H1
  | .ok => ∀ H1 g m kvs2, FrX x H H1 → H g = none → H m = none → H1 x = some (.ins c.CP dx (prF g m u)) → H1 g = some (.tup ((srt ks).map V.str)) → H1 m = some (.dK kvs2) → SameD kvs2 kvs ks → Q .non H1
def sp_init (K : PySem.W.Frag) (c : CPs) : Sp := fun vs H Q E => ∃ (x dx d : Addr) (kvs : List (Key × V)) (ks : List Str) (u : V), vs = [.ref x, .ref d, u] ∧ H x = some (.ins c.CP dx []) ∧ H d = some (.dK kvs) ∧ KD kvs ks ∧ TxtOk ks ∧ ks.length ≤ 60 ∧ (∀ p ∈ kvs, AmX H p.2) ∧ AmX H u ∧ initAt c x dx kvs ks u H Q E
end Lw

namespace Lw
open PySem PySem.Spec PyProof.Rows L2
/-! ### a == b by an own __eq__, whatever it answers -/
structure OwnEq (K : PySem.W.Frag) (C f : Addr) : Prop where
  at_ : PySem.W.findIn K (.ref C) "__eq__" = some (some (.ref f))
  fn : PySem.W.isFn K (.ref f) = true
def rOwn (C : Addr) (sp : Sp) (E : XK) : R2 := fun x y H Q => ∃ a b dx dy fs gs, x = .ref a ∧ y = .ref b ∧ H a = some (.ins C dx fs) ∧ H b = some (.ins C dy gs) ∧ sp [.ref a, .ref b] H (fun v H' => (∃ r, v = .bl r) ∧ Q v H') E
theorem op_eqOwn {X : Cx} {CX : CXT} {n : Nat} {C f : Addr} {fd : FuncData} {ps : List Str} {sp : Sp} {E : XK} (O : OwnEq X.K C f) (F : FnOk X.prog X.w X.K X.mg X.base CX n f fd ps sp) (hr : Room (n + 1) X.A) (hb : Binds X.K fd ps []) (hx : Passes CX X E) : OpR X (compareOp .Eq) (rOwn C sp E) := by
  intro pins s σ H x y u v Q I rx ry h
  obtain ⟨a, b, dx, dy, fs, gs, rfl, rfl, ha, hb', q⟩ := h
  cases rx
  cases ry
  obtain ⟨_, J, _⟩ := ins_get I.hok ha
  obtain ⟨_, J', _⟩ := ins_get I.hok hb'
  obtain ⟨_, J, _⟩ := J.look
  obtain ⟨_, J', _⟩ := J'.look
  obtain ⟨_, hF⟩ := I.fr
  have hu : X.A.units < cLine := by have := hr.un; omega
  show wpAny (model X.prog X.w) X.A (richCompare .Eq (.ref a) (.ref b)) (EP X pins σ Q) X.xe s
  refine PySem.W.cmp_K (op := .Eq) (tb := .ref C) hu hF I.ok.mod.kin J J'.type (by simp [PySem.W.notFirst]) O.at_ O.fn ?_
  have e0 := I.env0
  have hl := F.len _ _ _ _ q
  have r2 : Vals [V.ref a, V.ref b] [Value.ref a, Value.ref b] := .cons rfl (.cons rfl .nil)
  have hbb := hb s [.ref a, .ref b] I.kIn (by simpa using hl)
  rw [List.append_nil] at hbb
  refine wpAny_call (codeAny_mono (F.run X.A X.stack s H ⟨[.ref a, .ref b], []⟩ [.ref a, .ref b] [.ref a, .ref b] _ E (hr.mono (by omega)) e0 hbb r2 q) fun r s' hq => ?_)
  cases r with
  | error er => exact hx pins σ H s er s' I hq
  | ok fl =>
    cases fl with
    | ret w =>
      obtain ⟨z, H', I', rz, ⟨r, ez⟩, q3⟩ := I.after hq
      subst ez
      cases rz
      exact ⟨.bl r, H', I', rfl, q3⟩
    | next => cases hq
    | brk => cases hq
    | cont => cases hq
end Lw

/-! ### {**d, k: v}: within one model -/
namespace PySem
section
variable {prog : Program} {w : World} {K : Type} [DecidableEq K] {knd : KeyKind prog w K} {A : Around} {E : Value → Shared → Prop} {s : Shared}
theorem lw_dictPut {d : Addr} {kvs : List (K × Value)} {k : K} {key v : Value} {Q : Unit → Shared → Prop} (hkey : knd.is k key = true) (hm : s.heap.DictOf knd d kvs) (hsz : kvs.length ≤ sizeLine)
    (hQ : ∀ h', h'.DictOf knd d (stored kvs k v) → Heap.SameBut d s.heap h' → Q () { s with heap := h' }) : wpAny (model prog w) A (dictPut d (knd.hash k) key v) Q E s := by
  obtain ⟨o, es, ep, ho, hc, hd, hk, hp, hn⟩ := hm
  have hes : es.size ≤ sizeLine := by
    have e1 := hp.length
    have e2 : es.toList.length = es.size := by simp
    omega
  have hidx : (es.findIdx? fun e => knd.is k e.key) = kvs.findIdx? fun kv => decide (kv.1 = k) := by
    have := hp.findIdx k
    obtain ⟨l⟩ := es
    simpa using this
  unfold dictPut
  refine wpAny_bind (wpAny_dictFind_of hkey ho hd hk ?_)
  cases hi : es.findIdx? fun e => knd.is k e.key with
  | some i =>
    have hst : stored kvs k v = kvs.map (fun kv => if kv.1 = k then (kv.1, v) else kv) := by rw [stored, if_pos (any_of_findIdx_some (hidx ▸ hi))]
    refine wpAny_updateDict ho hd (hQ _ ⟨_, _, ep, Heap.get?_update_self _ ho (Obj.isFreed_of_dict (Obj.data_mapDict hd _)), hc.mapDict _, Obj.data_mapDict hd _, hk.modify _ _, ?_, ?_⟩ (Heap.SameBut.update ..))
    · rw [stored, if_pos (any_of_findIdx_some (hidx ▸ hi))]
      have hl : (es.toList.findIdx? fun e => knd.is k e.key) = some i := by
        rw [← hi]
        obtain ⟨l⟩ := es
        simp
      have h9 := hp.modify hn hl v
      obtain ⟨l⟩ := es
      simpa using h9
    · rw [stored, if_pos (any_of_findIdx_some (hidx ▸ hi)), keys_map_store]
      exact hn
  | none =>
    have hnot : k ∉ kvs.map (·.1) := not_mem_of_findIdx_none (hidx ▸ hi)
    have hany : ¬ (kvs.any fun kv => decide (kv.1 = k)) = true := fun h => by
      obtain ⟨kv, hkv, he⟩ := List.any_eq_true.mp h
      exact hnot (List.mem_map.mpr ⟨kv, hkv, of_decide_eq_true he⟩)
    refine wpAny_updateDictKeys (hz := hes) ho hd (hQ _ ⟨_, _, ep + 1, Heap.get?_update_self _ ho (Obj.isFreed_of_dict (Obj.data_mapDictKeys hd _)), hc.mapDictKeys _, Obj.data_mapDictKeys hd _, hk.push hkey _, ?_, ?_⟩ (Heap.SameBut.update ..))
    · rw [stored, if_neg hany]
      have h9 := hp.append hkey (knd.hash k) v
      obtain ⟨l⟩ := es
      simpa using h9
    · rw [stored, if_neg hany, List.map_append]
      exact L2.nd_snoc hn hnot
theorem lw_mergeMapping {d a : Addr} {kvs more : List (K × Value)} {Q : Unit → Shared → Prop} (hda : d ≠ a) (haS : (a == sysModules) = false) (hT : s.TypeIs (.ref a) "dict") (hnr : ∀ k v, knd.is k v = true → ∀ b, v ≠ .ref b)
    (hd : s.heap.DictOf knd d kvs) (ha : s.heap.DictOf knd a more) (hsz : kvs.length + more.length ≤ sizeLine) (hQ : ∀ h', h'.DictOf knd d (merged kvs more) → h'.DictOf knd a more → Heap.SameBut d s.heap h' → Q () { s with heap := h' }) :
    wpAny (model prog w) A (mergeMapping d (.ref a) false) Q E s := by
  obtain ⟨od, esd, epd, hod, hcd, hdd, hkd, hpd, hnd⟩ := id hd
  obtain ⟨oa, esa, epa, hoa, hca, hda', hka, hpa, hna⟩ := id ha
  unfold mergeMapping
  refine wpAny_bind (wpAny_isInstance (T := "dict") hT PySem.F.sub_dict_dict ?_)
  rw [if_pos rfl]
  refine wpAny_bind (wpAny_specialOf hT PySem.F.slot_dict_iter.lookup (wpAny_bind (wpAny_pure ?_)))
  rw [show (some (Value.builtin "dict.__iter__") == some (Value.builtin "dict.__iter__")) = true from by simp]
  dsimp only
  rw [if_neg (by rw [haS]; exact Bool.false_ne_true)]
  refine wpAny_bind (wpAny_dictEntries hod hdd ?_)
  have hlen : more.length = esa.size := by rw [← hpa.length]; simp
  have main : wpAny (model prog w) A (do
      let __do_lift ← dictEntries a
      let size : Nat := __do_lift.size
      let epoch ← dictEpoch a
      forIn (List.range size) PUnit.unit fun i __s => do
        let __do_lift ← dictEntries a
        match __do_lift[i]? with
        | some e => do
          holding [e.key, e.val] (dictPut d e.hash e.key e.val)
          let __do_lift ← dictEpoch a
          if (__do_lift != epoch) = true then do
            (unsupported "dict.changed-during-merge" : Sem PUnit)
            pure (ForInStep.yield PUnit.unit)
          else pure (ForInStep.yield PUnit.unit)
        | _ => do
          (unsupported "dict.changed-during-merge" : Sem PUnit)
          pure (ForInStep.yield PUnit.unit)
      pure ()) Q E s := by
    refine wpAny_bind (wpAny_dictEntries hoa hda' (wpAny_bind (wpAny_dictEpoch hoa hda' (wpAny_bind ?_))))
    refine wpAny_forIn_list _ (fun rest _ s' => ∃ h' i, s' = { s with heap := h' } ∧ rest = (List.range esa.size).drop i ∧ i ≤ esa.size ∧ h'.DictOf knd d (merged kvs (more.take i)) ∧ h'.get? a = some oa ∧ Heap.SameBut d s.heap h') _ ?_ ?_ _ _ ⟨s.heap, 0, rfl, rfl, Nat.zero_le _, by simpa [merged] using hd, hoa, Heap.SameBut.refl _ _⟩
    · rintro x rest b s' ⟨h', i, rfl, hr, hi, hd', ha', hs'⟩
      have hlt : i < esa.size := by
        rcases Nat.lt_or_ge i esa.size with h | h
        · exact h
        · rw [List.drop_eq_nil_of_le (by simpa using h)] at hr
          cases hr
      rw [List.drop_eq_getElem_cons (by simpa using hlt)] at hr
      obtain ⟨hx, hrest⟩ := List.cons.inj hr
      have hx : x = i := by simpa using hx
      subst hx
      have hlm : x < more.length := by omega
      have hkv : more[x]? = some more[x] := List.getElem?_eq_getElem hlm
      obtain ⟨hkey, hval⟩ := hpa.get? (e := esa[x]) (by simp [hlt]) hkv
      obtain ⟨k', hkey', hhash⟩ := hka esa[x] (Array.getElem_mem hlt)
      have hkk := knd.inj _ _ _ hkey' hkey
      have hmx : (merged kvs (more.take x)).length ≤ sizeLine := by
        have e1 := merged_length_le kvs (more.take x)
        have e2 : (more.take x).length ≤ more.length := by
          rw [List.length_take]
          omega
        omega
      refine wpAny_bind (wpAny_dictEntries ha' hda' ?_)
      rw [Array.getElem?_eq_getElem hlt]
      show wpAny _ _ (holding [esa[x].key, esa[x].val] (dictPut d esa[x].hash esa[x].key esa[x].val) >>= _) _ _ _
      rw [hhash, hval, hkk]
      refine wpAny_bind (wpAny_holding (lw_dictPut hkey hd' hmx fun h2 hd2 hs2 => ?_))
      have ha2 : h2.get? a = some oa := (hs2.2 a (Ne.symm hda)).trans ha'
      refine wpAny_bind (wpAny_dictEpoch ha2 hda' ?_)
      rw [if_neg (by simp)]
      exact wpAny_pure ⟨h2, x + 1, rfl, by simpa using hrest, hlt, by rw [merged_take_succ kvs more x _ hkv]; exact hd2, ha2, hs'.trans hs2⟩
    · rintro b s' ⟨h', i, rfl, hr, hi, hd', ha', hs'⟩
      have hin : i = esa.size := by
        have := congrArg List.length hr
        simp at this
        omega
      refine wpAny_pure (hQ h' ?_ ⟨oa, esa, epa, ha', hca, hda', hka, hpa, hna⟩ hs')
      rw [hin, ← hlen, List.take_length] at hd'
      exact hd'
  split
  · refine wpAny_bind (wpAny_dictEntries hoa hda' (wpAny_bind ?_))
    rw [← Array.forIn_toList]
    refine wpAny_forIn_list _ (fun rest _ s' => s' = s ∧ ∀ e ∈ rest, e ∈ esa) _ ?_ ?_ _ _ ⟨rfl, fun e h => Array.mem_toList_iff.mp h⟩
    · rintro x rest b s' ⟨rfl, hin⟩
      obtain ⟨k, hk, _⟩ := hka x (hin x List.mem_cons_self)
      split
      · rename_i c hc
        exact absurd hc (hnr k _ hk c)
      · exact wpAny_pure ⟨rfl, fun e h => hin e (List.mem_cons_of_mem _ h)⟩
    · rintro b s' ⟨rfl, _⟩
      exact main
  · exact main
end
end PySem

namespace Lw
open PySem PySem.Spec PyProof.Rows L2
theorem lw_display {prog : Program} {w : World} {A : Around} {E : Value → Shared → Prop} {s : Shared} {x k v : Sem Value} {Q : Value → Shared → Prop}
    (h : wpAny (model prog w) A (alloc { cls := .type "dict", data := .dict #[] }) (fun d s1 => wpAny (model prog w) A x (fun m s2 => wpAny (model prog w) A (mergeMapping d m false) (fun _ s3 => wpAny (model prog w) A (subDict [(k, v)]) (fun sub s4 => wpAny (model prog w) A (mergeMapping d (.ref sub) false) (fun _ s5 => Q (.ref d) s5) (fun _ _ => False) s4) E s3) (fun _ _ => False) s2) E s1) E s) :
    wpAny (model prog w) A (dictDisplay [(none, x), (some k, v)]) Q E s := by
  unfold dictDisplay
  dsimp only
  rw [List.forIn_cons]
  dsimp only
  rw [if_pos (show ([] : List (Sem Value × Sem Value)).isEmpty = true from rfl)]
  simp only [pure_bind, bind_assoc]
  refine wpAny_bind (wpAny_mono h (fun d s1 h1 => ?_) fun _ _ e => e)
  refine wpAny_bind (wpAny_holding (wpAny_mono h1 (fun m s2 h2 => ?_) fun _ _ e => e))
  refine wpAny_bind (wpAny_onRaise (wpAny_tryCatch (wpAny_onRaise (wpAny_holding (wpAny_mono h2 (fun _ s3 h3 => ?_) fun _ _ e => e.elim)))))
  rw [List.forIn_cons]
  dsimp only [List.nil_append]
  rw [if_neg (by simp)]
  simp only [pure_bind, List.forIn_nil]
  rw [if_neg (by simp)]
  simp only [bind_assoc, pure_bind]
  refine wpAny_bind (wpAny_holding (wpAny_mono h3 (fun sub s4 h4 => ?_) fun _ _ e => e))
  refine wpAny_bind (wpAny_onRaise (wpAny_holding (wpAny_mono h4 (fun _ s5 h5 => ?_) fun _ _ e => e.elim)))
  exact wpAny_pure h5
/-- {**d, k: v}, keys texts or ints: the new dict, and beside it the one of the pairs -/
def tStar (te tk tv : TE) : TE := fun σ H Q => ∀ p, H p = none → te σ (upd H p (.dK [])) fun y H1 => ∃ a more, y = .ref a ∧ a ≠ p ∧ H1 a = some (.dK more) ∧ H1 p = some (.dK []) ∧ more.length ≤ 1000 ∧
  ∀ q, upd H1 p (.dK (mergeK [] more)) q = none → tk σ (upd (upd H1 p (.dK (mergeK [] more))) q (.dK [])) fun x H2 => tv σ H2 fun y H3 => ∃ (kk : Key) (z : V), [(x, y)] = [(kV kk, z)] ∧ q ≠ p ∧ H3 q = some (.dK []) ∧ H3 p = some (.dK (mergeK [] more)) ∧ Q (.ref p) (upd (upd H3 q (.dK (mergeK [] [(kk, z)]))) p (.dK (mergeK (mergeK [] more) [(kk, z)])))
theorem mix_noref {P : Program} {w : World} : ∀ (k : Key) (v : Value), (mixKind P w).is k v = true → ∀ b, v ≠ .ref b := by
  intro k v h b e
  subst e
  cases k <;> simp [mixKind] at h <;> first | cases h | skip
theorem pe_dstar {X : Cx} {pos : Pos} {e k v : Expr} {te tk tv : TE} (he : PE X e te) (hk : PE X k tk) (hv : PE X v tv) : PE X (.Dict [none, some k] [e, v] pos) (tStar te tk tv) := by
  refine ⟨fun pins s σ H Q I q => ?_⟩
  rw [arm_eval_Dict]
  refine wpAny_bind (wpAny_standAt ?_)
  show wpAny _ _ (dictDisplay [(none, do let x ← eval e X.env; standAt pos; pure x), (some (eval k X.env), do let x ← eval v X.env; standAt pos; pure x)]) _ _ _
  refine lw_display (wpAny_alloc ?_)
  have hn := I.hok.fresh (Nat.le_refl s.heap.objs.size)
  have I1 := I.laid (a := s.heap.objs.size) (o := .dK []) (h' := s.heap.push { cls := .type "dict", data := .dict #[] }) (t' := s.toks) (fun _ _ q => Heap.get?_push_of_some _ q) (Nat.le_refl _) (dk_empty s.heap I.big)
  refine wpAny_bind (thn (he.run pins _ σ _ _ I1 (q _ hn)) fun u s1 ⟨y, H1, I2, ry, a, more, ey, hap, ha, hp, hm, q1⟩ => wpAny_bind (wpAny_standAt (wpAny_pure ?_)))
  subst ey
  cases ry
  obtain ⟨_, ya, va, ra, da⟩ := dk_of I2.hok ha
  obtain ⟨_, yp, vp, rp, dp⟩ := dk_of I2.hok hp
  cases rp
  have hva : va.length ≤ 1000 := by
    rw [← ra.length]
    exact hm
  have h1000 : 2000 ≤ sizeLine := by
    rw [sizeLine_eq]
    omega
  refine lw_mergeMapping (knd := mixKind X.prog X.w) (Ne.symm hap) ya da.typeIs mix_noref dp da (by simp; omega) fun h' d1 d2 hs => ?_
  have hz1 : (mergeK [] more).length ≤ 1000 := by
    have h1 := length_mergeK more []
    rw [List.length_nil] at h1
    omega
  have he1 : ∃ r, h'.get? s.heap.objs.size = some r := let ⟨r, _, _, hr, _⟩ := d1; ⟨r, hr⟩
  have I3 := d_write (t' := s1.toks) I2 (by rw [hp]; exact True.intro) hs he1 (dk_new (by omega) yp (ra.merge .nil) d1)
  have hq := I3.hok.fresh (Nat.le_refl h'.objs.size)
  have I4 := I3.laid (a := h'.objs.size) (o := .dK []) (h' := h'.push { cls := .type "dict", data := .dict #[] }) (t' := s1.toks) (fun _ _ q => Heap.get?_push_of_some _ q) (Nat.le_refl _) (dk_empty h' I3.big)
  have q3 := q1 h'.objs.size hq
  have hev := (pps_cons (pos := pos) hk hv (pps_nil (X := X))).run pins _ σ _ (fun ps H3 => ∃ (kk : Key) (z : V), ps = [(kV kk, z)] ∧ h'.objs.size ≠ s.heap.objs.size ∧ H3 h'.objs.size = some (.dK []) ∧ H3 s.heap.objs.size = some (.dK (mergeK [] more)) ∧ Q (.ref s.heap.objs.size) (upd (upd H3 h'.objs.size (.dK (mergeK [] [(kk, z)]))) s.heap.objs.size (.dK (mergeK (mergeK [] more) [(kk, z)])))) I4 q3
  refine wpAny_subDict (knd := mixKind X.prog X.w) (by simp) (thn hev fun ws s2 ⟨ps, H3, I5, rel, kk, z, ep, hqp, hq3, hp3, qq⟩ => ?_)
  subst ep
  obtain ⟨rs, c, rk⟩ := carries_of (P := X.prog) (w := X.w) (kvs := [(kk, z)]) rel
  obtain ⟨_, yq, vq, rq, dq⟩ := dk_of I5.hok hq3
  cases rq
  refine ⟨rs, c, dq, fun h2 d3 hs2 => ?_⟩
  have hz2 : (mergeK [] [(kk, z)]).length ≤ 1000 := by
    have h1 := length_mergeK [(kk, z)] []
    simp at h1
    omega
  have he2 : ∃ r, h2.get? h'.objs.size = some r := let ⟨r, _, _, hr, _⟩ := d3; ⟨r, hr⟩
  have I6 := d_write (t' := s2.toks + ws.length) I5 (by rw [hq3]; exact True.intro) hs2 he2 (dk_new (by omega) yq (rk.merge .nil) d3)
  have hp6 : (upd H3 h'.objs.size (.dK (mergeK [] [(kk, z)]))) s.heap.objs.size = some (.dK (mergeK [] more)) := (upd_ne (Ne.symm hqp)).trans hp3
  have hq6 : (upd H3 h'.objs.size (.dK (mergeK [] [(kk, z)]))) h'.objs.size = some (.dK (mergeK [] [(kk, z)])) := upd_same
  obtain ⟨_, yp6, vp6, rp6, dp6⟩ := dk_of I6.hok hp6
  obtain ⟨_, yq6, vq6, rq6, dq6⟩ := dk_of I6.hok hq6
  have l1 : vp6.length ≤ 1000 := by
    rw [← rp6.length]
    exact hz1
  have l2 : vq6.length ≤ 1000 := by
    rw [← rq6.length]
    exact hz2
  refine lw_mergeMapping (knd := mixKind X.prog X.w) (Ne.symm hqp) yq6 dq6.typeIs mix_noref dp6 dq6 (by omega) fun h3 d4 d5 hs3 => ?_
  have he3 : ∃ r, h3.get? s.heap.objs.size = some r := let ⟨r, _, _, hr, _⟩ := d4; ⟨r, hr⟩
  have hz3 : (mergeK (mergeK [] more) [(kk, z)]).length ≤ 1001 := by
    have h1 := length_mergeK [(kk, z)] (mergeK [] more)
    simp at h1
    omega
  have hm1 : mergeK [] [(kk, z)] = [(kk, z)] := rfl
  rw [hm1] at rq6
  exact ⟨.ref s.heap.objs.size, _, d_write (t' := s2.toks + ws.length) I6 (by rw [hp6]; exact True.intro) hs3 he3 (dk_new (by omega) yp6 (rq6.merge rp6) d4), rfl, qq⟩
end Lw

namespace LwN
open PySem PySem.Spec PyProof.Rows PySem.SeqAt
open AutoSeq1 (wpAny_loadPart')
open MeetsSeq MeetsSeq2 MeetsSeq3 SeqRoads2
section
variable {prog : Program} {w : World} {A : Around} {R : Result → Shared → Prop}
abbrev FinOf (prog : Program) (w : World) (A : Around) (R : Result → Shared → Prop) : Fin → Shared → Prop := fun fin s' => match fin with
  | .done f => R (.ok f) s'
  | .again c' => c'.quiet = true ∧ codeAny (model prog w) A c' R s'
/-- at each turn the list is read anew: N items, the i-th isn't equal to x -/
def ContI (prog : Program) (w : World) (A : Around) (E : Value → Shared → Prop) (l : Addr) (x : Value) (N : Nat) (I : Nat → Shared → Prop) : Prop :=
  ∀ i s, I i s → ∃ (items : Array Value) (n : Nat), s.heap.get? l = some { cls := .type "list", data := .seq items n } ∧ items.size = N ∧
    ∀ (h1 : i < items.size), wpAny (model prog w) A.in1 (eqBool items[i] x) (fun r s' => r = false ∧ I (i + 1) s') E s
theorem cont_loop (l : Addr) (x : Value) (N : Nat) (I : Nat → Shared → Prop) (hl : ContI prog w A (fun e s' => R (.error e) s') l x N I)
    (fin : ∀ s, I N s → R (.ok (.ret (.bool false))) s) (k : Nat) :
    ∀ i : Nat, N - i = k → i ≤ N → ∀ s, I i s →
      wpAny (model prog w) A.in1 (Builtin.«list.__contains__.loop» ⟨[.ref l, x, rawInt i], []⟩) (FinOf prog w A R) (fun e s' => R (.error e) s') s := by
  induction k with
  | zero =>
    intro i hk hi s h
    obtain ⟨items, n, hl1, hs1, _⟩ := hl _ _ h
    have hi' : i = N := by omega
    have hR : R (.ok (.ret (.bool false))) s := fin s (hi' ▸ h)
    obtain ⟨hp, g, d, tk, os⟩ := s
    wp_walk using wpAny_loadPart' hl1
    have hi1 : items[((i : Nat) : Int).toNat]? = none := by simp; omega
    rw [hi1]
    wp_walk using wpAny_loadPart' hl1
    exact hR
  | succ k ih =>
    intro i hk hi s h
    obtain ⟨items, n, hl1, hs1, turn⟩ := hl _ _ h
    have hlt : i < items.size := by omega
    have ht := turn hlt
    obtain ⟨hp, g, d, tk, os⟩ := s
    wp_walk using wpAny_loadPart' hl1
    have hi1 : items[((i : Nat) : Int).toNat]? = some items[i] := by simp [hlt]
    have hc : ((i : Int) + 1) = ((i + 1 : Nat) : Int) := by omega
    rw [hi1]
    refine wpAny_bind (wpAny_mono ht (fun r s2 h2 => ?_) fun _ _ x => x)
    obtain ⟨hr, h2⟩ := h2
    subst hr
    have hrec := ih (i + 1) (by omega) (by omega) s2 h2
    obtain ⟨hp2, g2, d2, tk2, os2⟩ := s2
    wp_walk
    rw [hc]
    exact ⟨plainId_quiet plain_contains_loop _, codeAny_builtin entry_contains_loop (by
      rw [Around.under_plainId plain_contains_loop _]
      exact hrec)⟩
theorem list_contG (l : Addr) (x : Value) (N : Nat) (I : Nat → Shared → Prop) (hl : ContI prog w A (fun e s' => R (.error e) s') l x N I)
    (fin : ∀ s, I N s → R (.ok (.ret (.bool false))) s) {s : Shared} (h : I 0 s) :
    wpAny (model prog w) A.in1 (Builtin.«list.__contains__» ⟨[.ref l, x], []⟩) (FinOf prog w A R) (fun e s' => R (.error e) s') s := by
  obtain ⟨items, n, hl1, hs1, _⟩ := hl _ _ h
  have hrec := cont_loop (A := A) (R := R) l x N I hl fin _ 0 rfl (Nat.zero_le _) s h
  obtain ⟨hp, g, d, tk, os⟩ := s
  wp_walk using wpAny_loadPart' hl1
  exact ⟨plainId_quiet plain_contains_loop _, codeAny_builtin entry_contains_loop (by
    rw [Around.under_plainId plain_contains_loop _]
    exact hrec)⟩
end
section
variable {prog : Program} {w : World} {A : Around} {E : Value → Shared → Prop} {s : Shared}
theorem call_here {T : String} {name : Str} {id : String} {B : Builtin} {self : Value} {rest : List Value} {Q : Value → Shared → Prop} (slot : Slot T name id) (hT : s.TypeIs self T)
    (entry : entryFor table id = some B) (args : argsOk id ⟨self :: rest, []⟩)
    (h : wpAny (model prog w) A.in1 (B ⟨self :: rest, []⟩) (FinOf prog w A (wants Q E)) (fun e s' => wants Q E (.error e) s') s) :
    wpAny (model prog w) A (call (.builtin id) (self :: rest)) Q E s :=
  wpAny_call (codeAny_call_builtin slot.plain entry (slot.check _ _ _ _ _ _ _ _ hT args h))
theorem in_listG {l : Addr} {x : Value} {N : Nat} {Q : Value → Shared → Prop} (I : Nat → Shared → Prop) (hl : ContI prog w A E l x N I) (fin : ∀ s, I N s → Q (.bool false) s) (h : I 0 s) :
    wpAny (model prog w) A (compareOp .In x (.ref l)) Q E s := by
  obtain ⟨items, n, hl1, _, _⟩ := hl _ _ h
  refine PyProof.Rows.In_slot ⟨_, hl1, rfl⟩ F.slot_list_contains (wpAny_mono (Q := fun v s' => ∃ b, v = .bool b ∧ Q (.bool b) s') (call_here F.slot_list_contains ⟨_, hl1, rfl⟩ F.entry_list_contains (F.args_list_contains_2 _ _) ?_) (fun v s' hv => ?_) fun _ _ e => e)
  · exact list_contG (R := wants (fun v s' => ∃ b, v = .bool b ∧ Q (.bool b) s') E) l x N I hl (fun s' q => ⟨false, rfl, fin s' q⟩) h
  · obtain ⟨b, rfl, hq⟩ := hv
    exact wpAny_truthy_bool hq
end
section
variable {M : Model} {prog : Program} {w : World} {A : Around} {E : Value → Shared → Prop} {s : Shared} {K : PySem.W.Frag} {x C : Addr} {ox : Obj} {od : Option Obj}
theorem isI {R : Bool → Shared → Prop} {b : Value} {r : Bool} (X : K.In s.heap) (I : PySem.W.InstAt s.heap x ox C od) (hs : PySem.W.subIn K (.ref C) b = some r) (h : R r s) : wpAny M A (isInstance (.ref x) b) R E s := by
  unfold isInstance
  exact wpAny_bind (I.type.here ((PySem.W.looks_subIn X hs).here h))
theorem list_decl {l : Addr} {items : Array Value} {n : Nat} {dd : Option Addr} {sl : Array (Option Value)} {Q : Fin → Shared → Prop} (X : K.In s.heap) (I : PySem.W.InstAt s.heap x ox C od) (hs : PySem.W.subIn K (.ref C) (.type "list") = some false)
    (hl : s.heap.get? l = some { cls := .type "list", dict := dd, data := .seq items n, slots := sl }) (hq : Q (.done (.ret .notImplemented)) s) : wpAny M A (Builtin.«list.__eq__» ⟨[.ref l, .ref x], []⟩) Q E s := by
  obtain ⟨hp, g, d, tk, os⟩ := s
  wp_walk using wpAny_loadPart' hl, (isI X I hs)
  exact hq
theorem tup_decl {l : Addr} {items : Array Value} {n : Nat} {dd : Option Addr} {sl : Array (Option Value)} {Q : Fin → Shared → Prop} (X : K.In s.heap) (I : PySem.W.InstAt s.heap x ox C od) (hs : PySem.W.subIn K (.ref C) (.type "tuple") = some false)
    (hl : s.heap.get? l = some { cls := .type "tuple", dict := dd, data := .seq items n, slots := sl }) (hq : Q (.done (.ret .notImplemented)) s) : wpAny M A (Builtin.«tuple.__eq__» ⟨[.ref l, .ref x], []⟩) Q E s := by
  obtain ⟨hp, g, d, tk, os⟩ := s
  wp_walk using wpAny_loadPart' hl, (isI X I hs)
  exact hq
theorem dict_decl {l : Addr} {o : Obj} {Q : Fin → Shared → Prop} (X : K.In s.heap) (I : PySem.W.InstAt s.heap x ox C od) (hs : PySem.W.subIn K (.ref C) (.type "dict") = some false)
    (hl : s.heap.get? l = some o) (hq : Q (.done (.ret .notImplemented)) s) : wpAny M A (Builtin.«dict.__eq__» ⟨[.ref l, .ref x], []⟩) Q E s := by
  obtain ⟨hp, g, d, tk, os⟩ := s
  wp_walk using wpAny_loadPart' hl, (isI X I hs)
  exact hq
theorem int_decl {i : Int} {t : Tok} {dx : Addr} {Q : Fin → Shared → Prop} (hx : s.heap.get? x = some (PySem.W.instObj C dx))
    (hq : Q (.done (.ret .notImplemented)) s) : wpAny M A (Builtin.«int.__eq__» ⟨[.int i t, .ref x], []⟩) Q E s := by
  obtain ⟨hp, g, d, tk, os⟩ := s
  wp_walk using wpAny_loadPart' hx
  exact hq
theorem str_decl {i : Str} {t : Tok} {dx : Addr} {Q : Fin → Shared → Prop} (hx : s.heap.get? x = some (PySem.W.instObj C dx))
    (hq : Q (.done (.ret .notImplemented)) s) : wpAny M A (Builtin.«str.__eq__» ⟨[.str i t, .ref x], []⟩) Q E s := by
  obtain ⟨hp, g, d, tk, os⟩ := s
  wp_walk using wpAny_loadPart' hx
  exact hq

theorem try_decl {T : String} {id : String} {B : Builtin} {u : Value} {Q : Option Value → Shared → Prop} (hT : s.TypeIs u T) (slot : Slot T "__eq__" id) (entry : entryFor table id = some B) (args : argsOk id ⟨[u, .ref x], []⟩)
    (hd : ∀ R : Result → Shared → Prop, R (.ok (.ret .notImplemented)) s → wpAny (model prog w) A.in1 (B ⟨[u, .ref x], []⟩) (FinOf prog w A R) (fun e s' => R (.error e) s') s) (hq : Q none s) :
    wpAny (model prog w) A (tryCompare u "__eq__" (.ref x)) Q E s :=
  wpAny_tryCompare_declines hT slot (call_here slot hT entry args (hd (wants (fun v s' => v = .notImplemented ∧ Q none s') E) ⟨rfl, hq⟩))
/-- u == x, where u's type knows nothing of x's class, and x has an own __eq__ -/
theorem rc_foreign {f : Addr} {T : String} {u : Value} {Q : Bool → Shared → Prop} (hu : A.units < cLine) (X : K.In s.heap) (I : PySem.W.InstAt s.heap x ox C od) (hT : s.TypeIs u T)
    (hsub : PySem.W.subIn K (.ref C) (.type T) = some false) (hs : PySem.W.findIn K (.ref C) "__eq__" = some (some (.ref f))) (hf : PySem.W.isFn K (.ref f) = true) (hone : oneThing? .Eq u (.ref x) = none)
    (dec : ∀ Q : Option Value → Shared → Prop, Q none s → wpAny (model prog w) A (tryCompare u "__eq__" (.ref x)) Q E s)
    (own : wpAny (model prog w) A (call (.ref f) [.ref x, u]) (fun v s' => ∃ b, v = .bool b ∧ Q b s') E s) : wpAny (model prog w) A (richCompare .Eq u (.ref x)) (fun v s' => ∃ b, v = Value.bool b ∧ Q b s') E s := by
  have two : wpAny (model prog w) A (tryCompare (.ref x) "__eq__" u) (fun r s' => ∃ b, r = some (.bool b) ∧ Q b s') E s := by
    unfold tryCompare
    refine wpAny_bind (PySem.W.ifBound_K X I hs hf (wpAny_mono own (fun v s' hv => ?_) fun _ _ e => e))
    obtain ⟨b, rfl, hq⟩ := hv
    exact wpAny_pure ⟨b, rfl, hq⟩
  simp only [richCompare, cmpInfo_Eq, hone]
  refine wpAny_holding (wpAny_bind (wpAny_cRoomFor hu ?_))
  refine wpAny_bind (wpAny_typeOf hT ?_)
  refine wpAny_bind (I.type.here ?_)
  rw [if_pos (by simp)]
  refine wpAny_bind ((PySem.W.looks_subIn X hsub).here ?_)
  simp only [Bool.false_eq_true, if_false, Bool.not_false, if_true]
  refine wpAny_bind (dec _ ?_)
  refine wpAny_bind (wpAny_mono two (fun r s' z => ?_) fun _ _ e => e)
  obtain ⟨b, rfl, hq⟩ := z
  exact wpAny_pure ⟨b, rfl, hq⟩
theorem eqB_non {Q : Bool → Shared → Prop} (h : wpAny (model prog w) A (richCompare .Eq .none (.ref x)) (fun v s' => ∃ b, v = Value.bool b ∧ Q b s') E s) : wpAny (model prog w) A (eqBool .none (.ref x)) Q E s := by
  unfold eqBool
  refine wpAny_holding (wpAny_ite_split (fun hab => absurd (eq_of_beq hab) nofun) fun _ => wpAny_bind (wpAny_mono h (fun v s' hv => ?_) fun _ _ e => e))
  obtain ⟨b, rfl, hq⟩ := hv
  exact wpAny_truthy_bool hq
theorem eqB_int {i : Int} {t : Tok} {Q : Bool → Shared → Prop} (h : wpAny (model prog w) A (richCompare .Eq (.int i t) (.ref x)) (fun v s' => ∃ b, v = Value.bool b ∧ Q b s') E s) : wpAny (model prog w) A (eqBool (.int i t) (.ref x)) Q E s := by
  unfold eqBool
  refine wpAny_holding (wpAny_ite_split (fun hab => absurd (eq_of_beq hab) nofun) fun _ => wpAny_bind (wpAny_mono h (fun v s' hv => ?_) fun _ _ e => e))
  obtain ⟨b, rfl, hq⟩ := hv
  exact wpAny_truthy_bool hq
theorem eqB_str {i : Str} {t : Tok} {Q : Bool → Shared → Prop} (h : wpAny (model prog w) A (richCompare .Eq (.str i t) (.ref x)) (fun v s' => ∃ b, v = Value.bool b ∧ Q b s') E s) : wpAny (model prog w) A (eqBool (.str i t) (.ref x)) Q E s := by
  unfold eqBool
  refine wpAny_holding (wpAny_ite_split (fun hab => absurd (eq_of_beq hab) nofun) fun _ => wpAny_bind (wpAny_mono h (fun v s' hv => ?_) fun _ _ e => e))
  obtain ⟨b, rfl, hq⟩ := hv
  exact wpAny_truthy_bool hq
theorem eqB_ref {y : Addr} {Q : Bool → Shared → Prop} (hne : y ≠ x) (h : wpAny (model prog w) A (richCompare .Eq (.ref y) (.ref x)) (fun v s' => ∃ b, v = Value.bool b ∧ Q b s') E s) : wpAny (model prog w) A (eqBool (.ref y) (.ref x)) Q E s := by
  unfold eqBool
  refine wpAny_holding (wpAny_ite_split (fun hab => absurd (by have := eq_of_beq hab; injection this) hne) fun _ => wpAny_bind (wpAny_mono h (fun v s' hv => ?_) fun _ _ e => e))
  obtain ⟨b, rfl, hq⟩ := hv
  exact wpAny_truthy_bool hq
/-- the other's own __ne__ is object's: it asks the own __eq__ -/
theorem ifBound_objNe {args : List Value} {Q : Option Value → Shared → Prop} (X : K.In s.heap) (I : PySem.W.InstAt s.heap x ox C od) (hs : PySem.W.findIn K (.ref C) "__ne__" = some (some (.builtin "object.__ne__")))
    (h : wpAny M A (call (.builtin "object.__ne__") (.ref x :: args)) (fun v => Q (some v)) E s) : wpAny M A (callSpecialIfBound? (.ref x) "__ne__" args) Q E s := by
  simp only [callSpecialIfBound?, bindSpecialIfBound?]
  refine wpAny_holding (wpAny_bind (wpAny_bind (wpAny_bind (I.type.here ((PySem.W.looks_findIn X hs).here ?_)))))
  refine wpAny_bind (wpAny_askSetting (wpAny_ite ?_))
  have fin : wpAny M A (call (.builtin "object.__ne__") ([.ref x] ++ args) >>= fun v => pure (some v)) Q E s := wpAny_bind (wpAny_mono h (fun v s' h' => wpAny_pure h') fun _ _ h' => h')
  split
  · exact wpAny_bind (wpAny_of_eq (F.cmp_object.ne.bind _) (wpAny_pure (by exact fin)))
  · exact wpAny_tryCatch (wpAny_bind (wpAny_of_eq (F.cmp_object.ne.bind _) (wpAny_pure (by exact fin))))
theorem objNe_own {f : Addr} {b : Value} {Q : Fin → Shared → Prop} (hu : A.units < cLine) (X : K.In s.heap) (I : PySem.W.InstAt s.heap x ox C od) (hs : PySem.W.findIn K (.ref C) "__eq__" = some (some (.ref f))) (hf : PySem.W.isFn K (.ref f) = true)
    (h : wpAny (model prog w) A (call (.ref f) [.ref x, b]) (fun v s' => ∃ r, v = .bool r ∧ Q (.done (.ret (.bool (!r)))) s') E s) :
    wpAny (model prog w) A (Builtin.«object.__ne__» ⟨[.ref x, b], []⟩) Q E s := by
  unfold Builtin.«object.__ne__»
  repeat (first
    | with_reducible refine wpAny_cRoomFor hu ?_
    | (refine wpAny_bind (m := callSpecialIfBound? (.ref x) (Str.ofString "__eq__") [b])
        (PySem.W.ifBound_K X I hs hf (wpAny_mono h (fun r s' hr => by
          obtain ⟨b, rfl, hq⟩ := hr
          repeat (first | exact hq | exact wpAny_pure hq | exact wpAny_truthy_bool hq | (refine wpAny_bind (m := truthy (.bool _)) (wpAny_truthy_bool ?_)) | wp_step)) fun _ _ e => e)))
    | wp_step)
theorem ne_own {f y : Addr} {oy : Obj} {ody : Option Obj} {Q : Value → Shared → Prop} (hu : A.units + 1 < cLine) (X : K.In s.heap) (I : PySem.W.InstAt s.heap x ox C od) (J : PySem.W.InstAt s.heap y oy C ody)
    (hn : PySem.W.findIn K (.ref C) "__ne__" = some (some (.builtin "object.__ne__"))) (hm : PySem.W.mroIn K C (.type "object") = some true) (hs : PySem.W.findIn K (.ref C) "__eq__" = some (some (.ref f))) (hf : PySem.W.isFn K (.ref f) = true)
    (h : wpAny (model prog w) A.in1 (call (.ref f) [.ref x, .ref y]) (fun v s' => ∃ r, v = .bool r ∧ Q (.bool (!r)) s') E s) : wpAny (model prog w) A (richCompare .NotEq (.ref x) (.ref y)) Q E s := by
  have one : wpAny (model prog w) A (tryCompare (.ref x) "__ne__" (.ref y)) (fun r s' => ∃ v, r = some v ∧ Q v s') E s := by
    unfold tryCompare
    refine wpAny_bind (ifBound_objNe X I hn (wpAny_call (codeAny_call_builtin F.cmp_object.ne.plain F.cmpEntry_ne (PySem.W.check_slot F.cmpKind_ne F.cmpSplit_ne (I.type.andThen (PySem.W.looks_mroIn X hm)) (F.cmpArgs_ne _ _) (objNe_own hu X I hs hf (wpAny_mono h (fun v s' hv => ?_) fun _ _ e => e))))))
    obtain ⟨r, rfl, hq⟩ := hv
    exact ⟨r, rfl, wpAny_pure ⟨_, rfl, hq⟩⟩
  unfold richCompare
  simp only [oneThing_ref]
  refine wpAny_holding (wpAny_bind (wpAny_cRoomFor (Nat.lt_of_succ_lt hu) ?_))
  rw [cmpInfo_NotEq]
  dsimp only
  refine wpAny_bind (I.type.here (wpAny_bind (J.type.here ?_)))
  rw [show (Value.ref C != Value.ref C) = false from by simp]
  simp only [Bool.false_eq_true, if_false]
  refine wpAny_bind (wpAny_pure ?_)
  simp only [Bool.false_eq_true, if_false]
  refine wpAny_bind (wpAny_mono one (fun r s' z => ?_) fun _ _ e => e)
  obtain ⟨v, rfl, hq⟩ := z
  exact wpAny_pure hq
end
end LwN

namespace Lw
open PySem PySem.Spec PyProof.Rows L2
/-! ### a != b and a in [..] by an own __eq__ -/
section
variable {X : Cx} {CX : CXT} {n : Nat} {C f : Addr} {fd : FuncData} {ps : List Str} {sp : Sp} {E : XK}
theorem own_call {A : Around} (F : FnOk X.prog X.w X.K X.mg X.base CX n f fd ps sp) (hb : Binds X.K fd ps []) (hx : Passes CX X E) (sb : Sub X n A) {pins : List (Addr × Obj)} {s : Shared} {σ : L2.St} {H : Hp} {x y : V} {u v : Value} (I : Inv X pins σ H s) (rx : RelV x u) (ry : RelV y v)
    {P : V → Hp → Prop} (h : sp [x, y] H P E) : wpAny (model X.prog X.w) A (call (.ref f) [u, v]) (fun w s' => ∃ z H', Inv X pins σ H' s' ∧ RelV z w ∧ P z H') X.xe s := by
  have e0 : Env0 X.prog X.w X.K X.mg X.base A X.stack s H := by
    have e := I.env0
    exact ⟨by rw [sb.fr]; exact e.frames, e.mod, e.bs, e.bsz, e.funs, e.frf, e.hok, e.bare⟩
  have hl := F.len _ _ _ _ h
  have r2 : Vals [x, y] [u, v] := .cons rx (.cons ry .nil)
  refine wpAny_call (codeAny_mono (F.run A X.stack s H ⟨[u, v], []⟩ [u, v] [x, y] _ E sb.room e0 (by
    have := hb s [u, v] I.kIn (by simpa using hl)
    simpa using this) r2 h) fun r s' hq => ?_)
  cases r with
  | error e => exact hx pins σ H s e s' I hq
  | ok fl =>
    cases fl with
    | ret w =>
      obtain ⟨z, H', I', rz, q⟩ := I.after hq
      exact ⟨z, H', I', rz, q⟩
    | next => exact False.elim hq
    | brk => exact False.elim hq
    | cont => exact False.elim hq
def rOwnNe (C : Addr) (sp : Sp) (E : XK) : R2 := fun x y H Q => ∃ a b dx dy fs gs, x = .ref a ∧ y = .ref b ∧ H a = some (.ins C dx fs) ∧ H b = some (.ins C dy gs) ∧ sp [.ref a, .ref b] H (fun v H' => ∃ r, v = .bl r ∧ Q (.bl (!r)) H') E
/-- what != and in by an own == want of the class -/
structure OwnNe (K : PySem.W.Frag) (C : Addr) : Prop where
  ne : PySem.W.findIn K (.ref C) "__ne__" = some (some (.builtin "object.__ne__"))
  ob : PySem.W.mroIn K C (.type "object") = some true
theorem op_neOwn (O : OwnEq X.K C f) (N : OwnNe X.K C) (F : FnOk X.prog X.w X.K X.mg X.base CX n f fd ps sp) (hr : Room (n + 1) X.A) (hb : Binds X.K fd ps []) (hx : Passes CX X E) : OpR X (compareOp .NotEq) (rOwnNe C sp E) := by
  intro pins s σ H x y u v Q I rx ry h
  obtain ⟨a, b, dx, dy, fs, gs, rfl, rfl, ha, hb', q⟩ := h
  cases rx
  cases ry
  obtain ⟨_, J, _⟩ := ins_get I.hok ha
  obtain ⟨_, J', _⟩ := ins_get I.hok hb'
  obtain ⟨_, J, _⟩ := J.look
  obtain ⟨_, J', _⟩ := J'.look
  show wpAny (model X.prog X.w) X.A (richCompare .NotEq (.ref a) (.ref b)) (EP X pins σ Q) X.xe s
  refine LwN.ne_own (by have := hr.un; omega) I.kIn J J' N.ne N.ob O.at_ O.fn (wpAny_mono (own_call F hb hx ⟨hr.in1, rfl⟩ I (show RelV (.ref a) (.ref a) from rfl) (show RelV (.ref b) (.ref b) from rfl) q) (fun w s' hw => ?_) fun _ _ e => e)
  obtain ⟨z, H', I', rz, r, rfl, q2⟩ := hw
  cases rz
  exact ⟨r, rfl, .bl (!r), H', I', rfl, q2⟩
/-- values of other kinds -/
inductive Fgn (H : Hp) : V → String → Prop where
  | non : Fgn H .non "NoneType"
  | int (i : Int) : Fgn H (.int i) "int"
  | str (z : Str) : Fgn H (.str z) "str"
  | lst {a : Addr} {xs : List V} (e : H a = some (.lst xs)) : Fgn H (.ref a) "list"
  | tup {a : Addr} {xs : List V} (e : H a = some (.tup xs)) : Fgn H (.ref a) "tuple"
  | dK {a : Addr} {kvs : List (Key × V)} (e : H a = some (.dK kvs)) : Fgn H (.ref a) "dict"
theorem Fgn.ex {H H1 : Hp} {v : V} {T : String} (h : Fgn H v T) (e : Evl.Ex H H1) : Fgn H1 v T := by
  cases h with
  | non => exact .non
  | int i => exact .int i
  | str z => exact .str z
  | lst h => exact .lst (e _ _ h)
  | tup h => exact .tup (e _ _ h)
  | dK h => exact .dK (e _ _ h)
theorem Fgn.ty {K : PySem.W.Frag} {H : Hp} {v : V} {T : String} (h : Fgn H v T) : TyOf K H v (.type T) := by
  cases h with
  | non => exact .non
  | int i => exact .int i
  | str z => exact .str z
  | lst h => exact .lst h
  | tup h => exact .tup h
  | dK h => exact .dK h
/-- the class isn't under another's -/
def Alone (K : PySem.W.Frag) (C : Addr) : Prop := ∀ T ∈ ["NoneType", "int", "str", "list", "tuple", "dict"], PySem.W.subIn K (.ref C) (.type T) = some false
theorem Fgn.mem {H : Hp} {v : V} {T : String} (h : Fgn H v T) : T ∈ ["NoneType", "int", "str", "list", "tuple", "dict"] := by
  cases h <;> simp
theorem fgn_eq {A : Around} {pins : List (Addr × Obj)} {s : Shared} {σ : L2.St} {H : Hp} {a dx : Addr} {fs : List (Str × V)} {v : V} {u : Value} {T : String} {Q : Bool → Shared → Prop} (O : OwnEq X.K C f) (al : Alone X.K C) (hu : A.units < cLine) (I : Inv X pins σ H s) (ha : H a = some (.ins C dx fs)) (rv : RelV v u) (h : Fgn H v T)
    (own : wpAny (model X.prog X.w) A (call (.ref f) [.ref a, u]) (fun v s' => ∃ b, v = Value.bool b ∧ Q b s') X.xe s) : wpAny (model X.prog X.w) A (eqBool u (.ref a)) Q X.xe s := by
  obtain ⟨_, J0, _⟩ := ins_get I.hok ha
  obtain ⟨_, J, _⟩ := J0.look
  have hx : s.heap.get? a = some (PySem.W.instObj C dx) := J0.1
  have hsub := al T h.mem
  have go : ∀ {w : Value}, u = w → s.TypeIs w T → oneThing? .Eq w (.ref a) = none → (∀ Q : Option Value → Shared → Prop, Q none s → wpAny (model X.prog X.w) A (tryCompare w "__eq__" (.ref a)) Q X.xe s) → wpAny (model X.prog X.w) A (richCompare .Eq w (.ref a)) (fun v s' => ∃ b, v = Value.bool b ∧ Q b s') X.xe s := fun {w} e hT h1 dec => by
    subst e
    exact LwN.rc_foreign hu I.kIn J hT hsub O.at_ O.fn h1 dec own
  cases h with
  | non =>
    cases (show u = Value.none from rv)
    exact LwN.eqB_non (go rfl rfl rfl fun Q q => wpAny_tryCompare_declines (show s.TypeIs .none "NoneType" from rfl) F.slot_NoneType_eq_refl (call_gives F.slot_NoneType_eq_refl rfl F.entry_NoneType_eq (F.args_NoneType_eq_2 _ _) (SeqAt.NoneType___eq___none_ref_0 a) ⟨rfl, q⟩))
  | int i =>
    obtain ⟨t, e⟩ := (show ∃ t, u = Value.int i t from rv)
    subst e
    exact LwN.eqB_int (go rfl rfl rfl fun Q q => LwN.try_decl (T := "int") rfl F.slot_int_eq F.entry_int_eq (F.args_int_eq_2 _ _) (fun R r => LwN.int_decl hx r) q)
  | str i =>
    obtain ⟨t, e⟩ := (show ∃ t, u = Value.str i t from rv)
    subst e
    exact LwN.eqB_str (go rfl rfl rfl fun Q q => LwN.try_decl (T := "str") rfl F.slot_str_eq F.entry_str_eq (F.args_str_eq_2 _ _) (fun R r => LwN.str_decl hx r) q)
  | lst e =>
    rename_i b xs
    cases (show u = Value.ref b from rv)
    have hne : b ≠ a := fun z => by
      rw [z, ha] at e
      cases e
    obtain ⟨z, its, k, r, e2⟩ := I.hok b _ e
    exact LwN.eqB_ref hne (go rfl ⟨_, e2, rfl⟩ rfl fun Q q => LwN.try_decl (T := "list") ⟨_, e2, rfl⟩ F.slot_list_eq F.entry_list_eq (F.args_list_eq_2 _ _) (fun R r => LwN.list_decl I.kIn J hsub e2 r) q)
  | tup e =>
    rename_i b xs
    cases (show u = Value.ref b from rv)
    have hne : b ≠ a := fun z => by
      rw [z, ha] at e
      cases e
    obtain ⟨its, r, e2, _⟩ := I.tuple (.inl (.inl e))
    obtain ⟨⟨cls, dd, data, sl⟩, ho, hc, m, hd⟩ := id e2
    simp only at hc hd
    subst hc hd
    exact LwN.eqB_ref hne (go rfl ⟨_, ho, rfl⟩ rfl fun Q q => LwN.try_decl (T := "tuple") ⟨_, ho, rfl⟩ F.slot_tuple_eq F.entry_tuple_eq (F.args_tuple_eq_2 _ _) (fun R r => LwN.tup_decl I.kIn J hsub ho r) q)
  | dK e =>
    rename_i b kvs
    cases (show u = Value.ref b from rv)
    have hne : b ≠ a := fun z => by
      rw [z, ha] at e
      cases e
    have hT : s.TypeIs (.ref b) "dict" := L2.dict_typeIs I (DGet.k (k := .inr "") e)
    obtain ⟨o, ho, hc⟩ := id hT
    exact LwN.eqB_ref hne (go rfl hT rfl fun Q q => LwN.try_decl (T := "dict") hT F.slot_dict_eq F.entry_dict_eq (F.args_dict_eq_2 _ _) (fun R r => LwN.dict_decl I.kIn J hsub ho r) q)
/-- o in [..]: none of the items is of o's class, and the own == says no to each -/
def rInOwn (C : Addr) (sp : Sp) (E : XK) : R2 := fun x y H Q => ∃ a b dx fs xs, x = .ref a ∧ y = .ref b ∧ H a = some (.ins C dx fs) ∧ H b = some (.lst xs) ∧
  (∀ v ∈ xs, ∃ T, Fgn H v T ∧ ∀ H1, Evl.Ex H H1 → sp [.ref a, v] H1 (fun w H' => w = .bl false ∧ Evl.Ex H1 H') E) ∧ ∀ H', Evl.Ex H H' → Q (.bl false) H'
theorem op_inOwn (O : OwnEq X.K C f) (al : Alone X.K C) (F : FnOk X.prog X.w X.K X.mg X.base CX n f fd ps sp) (hr : Room (n + 1) X.A) (hb : Binds X.K fd ps []) (hx : Passes CX X E) : OpR X (compareOp .In) (rInOwn C sp E) := by
  intro pins s σ H x y u v Q I rx ry h
  obtain ⟨a, b, dx, fs, xs, rfl, rfl, ha, hb', hs, q⟩ := h
  cases rx
  cases ry
  refine LwN.in_listG (N := xs.length) (fun _ s' => ∃ H', Inv X pins σ H' s' ∧ Evl.Ex H H') (fun i s' h => ?_) (fun s' h => ?_) ⟨H, I, Evl.Ex.refl _⟩
  · obtain ⟨H1, I1, e1⟩ := h
    obtain ⟨z, its, k, r, e⟩ := I1.hok b _ (e1 _ _ hb')
    refine ⟨its.toArray, k, e, by rw [List.size_toArray, ← r.length], fun h1 => ?_⟩
    have k1 : i < xs.length := by rw [r.length]; simpa using h1
    obtain ⟨w, hw, rw'⟩ := r.get (List.getElem?_eq_getElem k1)
    have g1 : its[i]? = some its.toArray[i] := by
      have h1' : i < its.length := by simpa using h1
      rw [List.getElem?_eq_getElem h1'] <;> simp
    rw [g1] at hw
    rw [Option.some.inj hw]
    obtain ⟨T, hf, hsp⟩ := hs _ (List.getElem_mem k1)
    refine fgn_eq O al hr.in1.units0 I1 (e1 _ _ ha) rw' (hf.ex e1) (wpAny_mono (own_call F hb hx ⟨hr.in1, rfl⟩ I1 (show RelV (.ref a) (.ref a) from rfl) rw' (hsp H1 e1)) (fun w s' hw => ?_) fun _ _ e => e)
    obtain ⟨z, H', I', rz, rfl, e'⟩ := hw
    cases rz
    exact ⟨false, rfl, rfl, H', I', e1.trans e'⟩
  · obtain ⟨H1, I1, e1⟩ := h
    exact ⟨.bl false, H1, I1, rfl, q H1 e1⟩
end
end Lw

namespace Lw
open PySem PySem.Spec PyProof.Rows L2
/-! ### a dict that is walked: it stands locked meanwhile -/
theorem Ex.lock {H H1 : Hp} {d : Addr} {u z : HO} (hd : H d = some u) (e : Evl.Ex (upd H d z) H1) : Evl.Ex H (upd H1 d u) := fun c o hc => by
  by_cases h : c = d
  · subst h
    rw [upd_same, ← hd]
    exact hc
  · rw [upd_ne h]
    refine e _ _ ?_
    rw [upd_ne h]
    exact hc
theorem Ex.locked {H H0 : Hp} {d : Addr} {z : HO} (e : Evl.Ex H H0) : Evl.Ex (upd H d z) (upd H0 d z) := fun c o hc => by
  by_cases h : c = d
  · subst h
    rw [upd_same] at hc ⊢
    exact hc
  · rw [upd_ne h] at hc ⊢
    exact e _ _ hc
section
variable {σ : L2.St} {H : Hp} {tl te : TE}
/-- [e for k in d] -/
theorem el_lcK {j : Nat} {vs : List Nat} {d : Addr} {kvs : List (Key × V)} {ks : List Str} (g : Str → V) (hd : H d = some (.dK kvs)) (hk : KD kvs ks) (h : ∀ od, Evl.Ev tl σ (upd H d (.frz od (.dK kvs))) (.ref d)) (hz : ks.length ≤ 40000) (hw : ∀ x, wipe ((wipe σ vs).set j (some x)) vs = wipe σ vs)
    (he : ∀ od (s : Str) H1, Evl.Ex (upd H d (.frz od (.dK kvs))) H1 → s ∈ ks → Evl.Ev te ((wipe σ vs).set j (some (.str s))) H1 (g s)) : Evl.EvL (tLockE (tLc (iKeys tl) (gName j) tYes te vs)) σ H (ks.map g) := fun H0 e Q q => by
  have hd0 := e _ _ hd
  refine ⟨d, .dK kvs, hd0, trivial, fun od => ?_⟩
  refine h od _ (Ex.locked e) _ fun H1 e1 => ⟨d, od, rfl, .inl ⟨kvs, e1 _ _ upd_same, fun Dl hD => ?_⟩⟩
  have hkl := hk.len
  have hat : ∀ i, i < ks.length → ∃ s, ks[i]? = some s ∧ s ∈ ks ∧ ∃ v, kvs[i]? = some (.inr s, v) := fun i hi => by
    have h1 : ks[i]? = some ks[i] := List.getElem?_eq_getElem hi
    have h2 : kvs[i]? = some kvs[i] := List.getElem?_eq_getElem (by omega)
    have h3 : (kvs.map (·.1))[i]? = (ks.map Sum.inr)[i]? := by rw [show kvs.map (·.1) = ks.map Sum.inr from hk]
    rw [List.getElem?_map, List.getElem?_map, h1, h2] at h3
    have h4 : kvs[i].1 = Sum.inr ks[i] := Option.some.inj h3
    exact ⟨_, h1, List.getElem_mem _, kvs[i].2, by rw [h2, ← h4]⟩
  refine cw_it (σ := σ) (n := kvs.length) (walk_keys (kvs := kvs) (d := d) (o := od)) (fun i => (ks[i]?.map fun _ => true).getD false) (fun i => (ks[i]?.map g).getD .non) (fun i => (ks[i]?.map V.str).getD .non) hD (by omega) (fun H2 e2 => (e1.trans e2) _ _ upd_same) (fun i H2 x H3 _ hi y => ?_) hw (fun i hi => ?_) (fun i hi hf => ?_) (fun H2 k => ?_)
  · obtain ⟨rfl, k, v, h2, rfl⟩ := y
    obtain ⟨s, h1, _, v', h3⟩ := hat i (by omega)
    rw [h3] at h2
    have := (Prod.mk.inj (Option.some.inj h2)).1
    subst this
    rw [h1]
    exact ⟨rfl, rfl⟩
  · obtain ⟨s, h1, hm, _⟩ := hat i (by omega)
    rw [h1]
    exact et_yes
  · obtain ⟨s, h1, hm, _⟩ := hat i (by omega)
    rw [h1]
    exact he od s H1 ((Ex.locked e).trans e1) hm
  · have gl := given_list (fun _ : Str => true) g ks
    have hne : Dl ≠ d := fun z => by
      rw [z, e1 _ _ upd_same] at hD
      cases hD
    refine ⟨k.2.1 _ _ (e1 _ _ upd_same), q Dl _ ?_ (Ex.lock hd0 (e1.trans k.2.1)) ?_⟩
    · have := Evl.fresh_back e1 hD
      rw [upd_ne hne] at this
      exact this
    · rw [upd_ne hne]
      rw [List.filter_eq_self.mpr fun _ _ => rfl] at gl
      rw [← gl, ← hkl]
      exact k.2.2
end
end Lw

namespace Lw
open PySem PySem.Spec PyProof.Rows L2
/-! ### a set's table that is laid anew: masks 7, 15 and 31 -/
/-- from each slot each slot is met in a round -/
def Cov (m : Nat) : Prop := ∀ i, i ≤ m → ∀ j, j ≤ m → ∃ k, k ≤ m ∧ lcgI m i k = j
theorem cov_of {m : Nat} (h : ((List.range (m + 1)).all fun i => (List.range (m + 1)).all fun j => (List.range (m + 1)).any fun k => lcgI m i k == j) = true) : Cov m := fun i hi j hj => by
  have h1 := List.all_eq_true.mp (List.all_eq_true.mp h i (List.mem_range.mpr (by omega))) j (List.mem_range.mpr (by omega))
  obtain ⟨k, hk, e⟩ := List.any_eq_true.mp h1
  exact ⟨k, Nat.le_of_lt_succ (List.mem_range.mp hk), by simpa using e⟩
theorem cov7 : Cov 7 := cov_of (by decide +kernel)
theorem cov15 : Cov 15 := cov_of (by decide +kernel)
theorem cov31 : Cov 31 := cov_of (by decide +kernel)
/-- where nothing is found, each turn began at a slot that was taken -/
theorem search_none (m : Nat) (ow : Array (Option Nat)) : ∀ (f i b : Nat), SetTable.layClean.free m ow f i b = none → ∀ n, n < f → oAt ow (itL m i b n).1 ≠ none
  | 0, _, _, _, n, hn => absurd hn (Nat.not_lt_zero _)
  | f + 1, i, b, h, n, hn => by
    rw [free_succ] at h
    cases hr : (List.range (SetTable.runEnd m i + 1 - i)).find? fun k => (oAt ow (i + k)).isNone with
    | some k =>
      rw [hr] at h
      cases h
    | none =>
      rw [hr] at h
      cases n with
      | zero =>
        intro e
        have hm : (0 : Nat) ∈ List.range (SetTable.runEnd m i + 1 - i) := List.mem_range.mpr (by unfold SetTable.runEnd; split <;> omega)
        have := List.find?_eq_none.mp hr 0 hm
        rw [Nat.add_zero, show oAt ow i = none from e] at this
        exact this rfl
      | succ n => exact search_none m ow f _ _ h n (by omega)
theorem search_some (m : Nat) (ow : Array (Option Nat)) : ∀ (f i b j : Nat), SetTable.layClean.free m ow f i b = some j → oAt ow j = none
  | 0, _, _, _, h => nomatch h
  | f + 1, i, b, j, h => by
    rw [free_succ] at h
    cases hr : (List.range (SetTable.runEnd m i + 1 - i)).find? fun k => (oAt ow (i + k)).isNone with
    | some k =>
      rw [hr] at h
      have e : i + k = j := Option.some.inj h
      have hk := List.find?_some hr
      rw [e] at hk
      simpa using hk
    | none =>
      rw [hr] at h
      exact search_some m ow f _ _ j h
/-- k of the slots are taken, by 0 to k - 1 -/
structure Tkn (m k : Nat) (ow : Array (Option Nat)) : Prop where
  sz : ow.size = m + 1
  lt : ∀ j i, oAt ow j = some i → j ≤ m → i < k
  ex : ∀ i, i < k → ∃ j, j ≤ m ∧ oAt ow j = some i
  few : ∃ ps : List Nat, ps.length = k ∧ ∀ j, j ≤ m → oAt ow j ≠ none → j ∈ ps
theorem Tkn.start (m : Nat) : Tkn m 0 (Array.replicate (m + 1) none) :=
  ⟨by simp, fun j i e hj => (by rw [oAt_init hj] at e; cases e), fun i hi => absurd hi (Nat.not_lt_zero _), ⟨[], rfl, fun j hj e => absurd (oAt_init hj) e⟩⟩
theorem Tkn.room {m k : Nat} {ow : Array (Option Nat)} (T : Tkn m k ow) (hk : k ≤ m) : ∃ j, j ≤ m ∧ oAt ow j = none := by
  obtain ⟨ps, hl, hp⟩ := T.few
  refine Classical.byContradiction fun hno => ?_
  have := nat_nodup_len (List.range (m + 1)) ps List.nodup_range fun x hx => hp x (Nat.le_of_lt_succ (List.mem_range.mp hx)) fun e => hno ⟨x, Nat.le_of_lt_succ (List.mem_range.mp hx), e⟩
  rw [List.length_range] at this
  omega
theorem Tkn.next {m k : Nat} {ow : Array (Option Nat)} (c : Cov m) (T : Tkn m k ow) (hk : k ≤ m) (h : Int) :
    ∃ j, SetTable.layClean.free m ow (SetTable.turns m) (SetTable.bits h % (m + 1)) (SetTable.bits h) = some j ∧ Tkn m (k + 1) (ow.setIfInBounds j (some k)) := by
  cases hf : SetTable.layClean.free m ow (SetTable.turns m) (SetTable.bits h % (m + 1)) (SetTable.bits h) with
  | none =>
    obtain ⟨j, hj, e⟩ := T.room hk
    obtain ⟨n, hn, en⟩ := c _ (runI_le m (SetTable.bits h) 12) j hj
    have hs := search_none m ow _ _ _ hf (12 + n) (by unfold SetTable.turns; omega)
    rw [itL_run, runI_tail (bits_lt h), en] at hs
    exact absurd e hs
  | some j =>
    refine ⟨j, rfl, ?_⟩
    have hj := search_some m ow _ _ _ _ hf
    have hjs : j < ow.size := by
      refine Nat.lt_of_not_le fun hle => ?_
      have : oAt ow j = some 0 := by
        show ow.getD j (some 0) = some 0
        rw [Array.getD_eq_getD_getElem?, Array.getElem?_eq_none hle]
        rfl
      rw [this] at hj
      cases hj
    have hjm : j ≤ m := by rw [T.sz] at hjs; omega
    obtain ⟨ps, hl, hp⟩ := T.few
    refine ⟨by rw [Array.size_setIfInBounds]; exact T.sz, fun x i e hx => ?_, fun i hi => ?_, ⟨j :: ps, by rw [List.length_cons, hl], fun x hx e => ?_⟩⟩
    · by_cases hxj : x = j
      · rw [hxj, oAt_set_self _ hjs] at e
        cases e
        omega
      · rw [oAt_set_ne _ hxj] at e
        exact Nat.lt_succ_of_lt (T.lt x i e hx)
    · by_cases hik : i = k
      · exact ⟨j, hjm, by rw [oAt_set_self _ hjs, hik]⟩
      · obtain ⟨x, hx, e⟩ := T.ex i (by omega)
        refine ⟨x, hx, ?_⟩
        rw [oAt_set_ne _ fun q => by rw [q, hj] at e; cases e]
        exact e
    · by_cases hxj : x = j
      · rw [hxj]
        exact List.mem_cons_self
      · rw [oAt_set_ne _ hxj] at e
        exact List.mem_cons_of_mem _ (hp x hx e)
theorem clean_fold {m : Nat} (c : Cov m) : ∀ (hs : List Int) (k : Nat) (ow : Array (Option Nat)), Tkn m k ow → k + hs.length ≤ m + 1 → ∃ ow', hs.foldl (stepF m) (some (ow, k)) = some (ow', k + hs.length) ∧ Tkn m (k + hs.length) ow'
  | [], k, ow, T, _ => ⟨ow, rfl, T⟩
  | h :: r, k, ow, T, hl => by
    rw [List.length_cons] at hl
    obtain ⟨j, e, T2⟩ := T.next c (by omega) h
    obtain ⟨ow', f, T3⟩ := clean_fold c r (k + 1) _ T2 (by omega)
    have hk : k + 1 + r.length = k + (h :: r).length := by rw [List.length_cons]; omega
    rw [hk] at f T3
    exact ⟨ow', by rw [List.foldl_cons, stepF_some e]; exact f, T3⟩
/-- the table that comes of it -/
structure Anew (m n : Nat) (led plain : Bool) (t : SetTable) (order : Array Nat) : Prop where
  perm : order.toList.Perm (List.range n)
  size : t.place.size = n
  ris : Ris t.place.toList
  mask : t.mask = m
  led : t.led = led
  plain : t.plain = plain
  dum : t.dummies = #[]
theorem laid_anew {m : Nat} (c : Cov m) {hs : Array Int} (hn : hs.size ≤ m) (fi mv : Nat) (led plain : Bool) : ∃ t order, SetTable.laid m fi mv led plain hs = some (t, order) ∧ Anew m hs.size led plain t order := by
  obtain ⟨ow, f, T⟩ := clean_fold c hs.toList 0 _ (Tkn.start m) (by rw [Array.length_toList]; omega)
  rw [Nat.zero_add, Array.length_toList] at f T
  have hc : SetTable.layClean m hs = some ow := by
    rw [layClean_eq, f]
    rfl
  have ris := ris_live (fun j => ow.getD j none) (List.range (m + 1)) (by
    unfold Ris
    first | exact List.pairwise_lt_range | exact List.pairwise_lt_range _)
  have r1 : Ris ((liveOf m ow).map (·.1)) := ris.1
  have nd : ((liveOf m ow).map (·.1)).Nodup := List.Pairwise.imp (fun h => Nat.ne_of_lt h) r1
  have hlen : (liveOf m ow).length = hs.size := by
    obtain ⟨ps, p1, p2⟩ := T.few
    have a := nat_nodup_len ((liveOf m ow).map (·.1)) ps nd fun x hx => by
      obtain ⟨q, hq, e⟩ := List.mem_map.mp hx
      obtain ⟨y, k⟩ := q
      obtain rfl : y = x := e
      obtain ⟨b1, b2⟩ := (mem_live T.sz).1 hq
      exact p2 y b1 fun z => by rw [b2] at z; cases z
    have b := nat_nodup_len (List.range hs.size) ((liveOf m ow).map (·.2)) List.nodup_range fun k hk => by
      obtain ⟨j, b1, b2⟩ := T.ex k (List.mem_range.mp hk)
      exact List.mem_map.mpr ⟨(j, k), (mem_live T.sz).2 ⟨b1, b2⟩, rfl⟩
    rw [List.length_map, p1] at a
    rw [List.length_map, List.length_range] at b
    omega
  refine ⟨{ mask := m, place := ((liveOf m ow).map (·.1)).toArray, dummies := #[], finger := fi, led, moves := mv, plain }, ((liveOf m ow).map (·.2)).toArray, ?_, ?_, ?_, r1, rfl, rfl, rfl, rfl⟩
  · show (SetTable.layClean m hs).bind _ = _
    rw [hc]
    rfl
  · refine perm_range hs.size _ ?_ fun k hk => ?_
    · rw [List.length_map, hlen]
    · obtain ⟨j, b1, b2⟩ := T.ex k hk
      exact List.mem_map.mpr ⟨(j, k), (mem_live T.sz).2 ⟨b1, b2⟩, rfl⟩
  · show ((liveOf m ow).map (·.1)).toArray.size = hs.size
    rw [List.size_toArray, List.length_map, hlen]
/-- elements put into another order -/
theorem ordered {es : Array (Int × Value)} {order : Array Nat} (h : order.toList.Perm (List.range es.size)) : (order.filterMap (es[·]?)).toList.Perm es.toList := by
  rw [Array.toList_filterMap]
  refine (h.filterMap _).trans ?_
  rw [PySem.filterMap_getElem?_range]
end Lw

namespace Lw
open PySem PySem.Spec PyProof.Rows L2
open PySem.Froz (SD sObj TxOk upd_const get_upd)
/-! ### a set of texts is merged into another one -/
def SetD (P : Program) (w : World) (h : Heap) (a : Addr) (l : List Str) (D : SD) : Prop := h.get? a = some (sObj "set" D) ∧ TxOk P w D l ∧ l.Nodup ∧ Ris D.2.2.place.toList ∧ (w.params.followText "set-order" = true ∨ D.2.2.led = true)
theorem SetT.d {P : Program} {w : World} {h : Heap} {a : Addr} {l : List Str} (R : SetT P w h a l) : ∃ D, SetD P w h a l D := R
theorem SetD.t {P : Program} {w : World} {h : Heap} {a : Addr} {l : List Str} {D : SD} (R : SetD P w h a l D) : SetT P w h a l := ⟨D, R⟩
theorem SetD.at {P : Program} {w : World} {h h' : Heap} {a : Addr} {l : List Str} {D : SD} (k : ∀ o, h.get? a = some o → h'.get? a = some o) (R : SetD P w h a l D) : SetD P w h' a l D := ⟨k _ R.1, R.2⟩
section
variable {P : Program} {w : World} {A : Around} {E : Value → Shared → Prop} {s : Shared} {a b : Addr} {l : List Str} {D : SD}
theorem SetD.state {Q : (Array (Int × Value) × Nat × SetTable) → Shared → Prop} (R : SetD P w s.heap a l D) (h : Q (D.1, D.2.1, D.2.2) s) : wpAny (model P w) A (setState a) Q E s :=
  wpAny_setState_of R.1 rfl R.2.1.fit h
theorem SetD.size (R : SetD P w s.heap a l D) : D.1.size = l.length := R.2.1.sz
/-- the table's places are as many as the elements -/
theorem SetD.place {h : Heap} (R : SetD P w h a l D) : D.2.2.place.size = l.length := by
  have hf : D.2.2.fits D.1.size = true := R.2.1.fit
  unfold SetTable.fits at hf
  have := (Bool.and_eq_true_iff.mp hf).1
  rw [beq_iff_eq.mp this]
  exact R.2.1.sz
theorem store_x {es : Array (Int × Value)} {t : SetTable} {l' : List Str} {Q : Unit → Shared → Prop} (R : SetD P w s.heap a l D) (T : TxOk P w (es, D.2.1 + 1, t) l') (hn : l'.Nodup) (hr : Ris t.place.toList) (hl : w.params.followText "set-order" = true ∨ t.led = true) (hb : es.size < scanBound)
    (h : ∀ h', Heap.SameBut a s.heap h' → SetD P w h' a l' (es, D.2.1 + 1, t) → Q () { s with heap := h' }) : wpAny (model P w) A (storeSet a es t) Q E s := by
  have e1 : s.heap.update a (Obj.putSet es t) = s.heap.update a (fun _ => sObj "set" (es, D.2.1 + 1, t)) := (upd_const _ R.1).trans rfl
  refine wpAny_storeSet_of R.1 rfl ?_ (fits_of_scanBound hb)
  rw [e1]
  exact h _ (Heap.SameBut.update s.heap a _) ⟨get_upd _ R.1 rfl, T, hn, hr, hl⟩
theorem fits_of {t : SetTable} {n m : Nat} (h1 : t.place.size = n) (h2 : t.dummies = #[]) (h3 : t.mask = m) (h4 : n ≤ m) : t.fits n = true := by
  unfold SetTable.fits SetTable.fill
  rw [h1, h2, h3]
  simp
  exact h4
theorem relay_x {wanted m : Nat} {Q : Unit → Shared → Prop} (R : SetD P w s.heap a l D) (hw : SetTable.sizeAbove wanted - 1 = m) (hs : SetTable.sizeAbove wanted ≤ 1000) (c : Cov m) (hn : l.length ≤ m)
    (h : ∀ h' D', Heap.SameBut a s.heap h' → SetD P w h' a l D' → D'.2.2.mask = m → D'.2.2.dummies = #[] → Q () { s with heap := h' }) : wpAny (model P w) A (setRelay a wanted) Q E s := by
  rw [setRelay_eq]
  refine wpAny_bind (R.state ?_)
  dsimp only
  have hsz : (D.1.map (·.1)).size = l.length := by rw [Array.size_map]; exact R.2.1.sz
  obtain ⟨t', order, e, N⟩ := laid_anew c (hs := D.1.map (·.1)) (by rw [hsz]; exact hn) D.2.2.finger (D.2.2.movedTo m) D.2.2.led D.2.2.plain
  have er : D.2.2.relaid (D.1.map (·.1)) wanted = some (t', order) := by
    unfold SetTable.relaid
    rw [hw]
    exact e
  rw [hsz] at N
  have hperm : (order.filterMap (D.1[·]?)).toList.Perm D.1.toList := ordered (by rw [R.2.1.sz]; exact N.perm)
  have hps : (order.filterMap (D.1[·]?)).size = D.1.size := by rw [← Array.length_toList, hperm.length_eq, Array.length_toList]
  have hnb : ¬ SetTable.sizeAbove wanted > sizeLine := by
    have : (1000 : Nat) ≤ sizeLine := by decide
    omega
  rw [if_neg hnb]
  refine wpAny_bind ?_
  rw [er]
  dsimp only
  have hne : ¬ ((order.filterMap (D.1[·]?)).size != D.1.size) = true := by rw [hps]; simp
  rw [if_neg hne]
  refine wpAny_pure ?_
  have hsz2 : D.1.size = l.length := R.2.1.sz
  refine store_x R (R.2.1.perm hperm (fits_of (by rw [N.size, hps, hsz2]) N.dum N.mask (by rw [hps, hsz2]; exact hn))) R.2.2.1 N.ris (R.2.2.2.2.imp id fun q => by rw [N.led]; exact q) (by rw [hps, hsz2]; unfold scanBound; have : SetTable.sizeAbove wanted ≤ 1000 := hs; omega) fun h' sb R' => h h' _ sb R' N.mask N.dum
theorem above_20 : ∀ W, W ≤ 20 → (SetTable.sizeAbove W - 1 = 7 ∨ SetTable.sizeAbove W - 1 = 15 ∨ SetTable.sizeAbove W - 1 = 31) ∧ W ≤ SetTable.sizeAbove W - 1 ∧ SetTable.sizeAbove W ≤ 1000 := by
  intro W hW
  have : ((List.range 21).all fun W => decide ((SetTable.sizeAbove W - 1 = 7 ∨ SetTable.sizeAbove W - 1 = 15 ∨ SetTable.sizeAbove W - 1 = 31) ∧ W ≤ SetTable.sizeAbove W - 1 ∧ SetTable.sizeAbove W ≤ 1000)) = true := by decide +kernel
  exact of_decide_eq_true (List.all_eq_true.mp this W (List.mem_range.mpr (by omega)))
theorem room_x {more : Nat} {Q : Unit → Shared → Prop} (R : SetD P w s.heap a l D) (hm : l.length + more ≤ 10)
    (h1 : D.2.2.roomFor more = none → Q () s)
    (h2 : ∀ h' D' m, Heap.SameBut a s.heap h' → SetD P w h' a l D' → D'.2.2.mask = m → Cov m → l.length + more ≤ m → D'.2.2.dummies = #[] → Q () { s with heap := h' }) : wpAny (model P w) A (setRoomFor a more) Q E s := by
  unfold setRoomFor
  refine wpAny_bind (R.state ?_)
  dsimp only
  cases hr : D.2.2.roomFor more with
  | none => exact wpAny_pure (h1 hr)
  | some wanted =>
    have hw : wanted = (l.length + more) * 2 := by
      unfold SetTable.roomFor at hr
      split at hr
      · rw [← Option.some.inj hr, R.place]
      · cases hr
    obtain ⟨q1, q2, q3⟩ := above_20 wanted (by omega)
    have c : Cov (SetTable.sizeAbove wanted - 1) := by
      rcases q1 with e | e | e <;> rw [e]
      · exact cov7
      · exact cov15
      · exact cov31
    exact relay_x R rfl q3 c (by omega) fun h' D' sb R' hm' hd => h2 h' D' _ sb R' hm' c (by omega) hd
end
end Lw

namespace Lw
open PySem PySem.Spec PyProof.Rows L2
open PySem.Froz (SD sObj TxOk upd_const get_upd)
section
variable {P : Program} {w : World} {A : Around} {E : Value → Shared → Prop} {s : Shared} {a b : Addr} {l k : List Str} {D C : SD}
theorem store_copy {led' : Bool} {fi mv : Nat} {pl : Bool} {Q : Unit → Shared → Prop} (R : SetD P w s.heap a [] D) (O : SetD P w s.heap b l C) (hl5 : l.length ≤ 5) (hl : w.params.followText "set-order" = true ∨ led' = true)
    (h : ∀ h', Heap.SameBut a s.heap h' → SetT P w h' a l → Q () { s with heap := h' }) : wpAny (model P w) A (storeSet a C.1 { C.2.2 with finger := fi, led := led', moves := mv, plain := pl }) Q E s := by
  have F := O.2.1
  exact store_x R ⟨F.el, F.mem, F.sz, F.fit⟩ O.2.2.1 O.2.2.2.1 hl (by rw [F.sz]; unfold scanBound; omega) fun h' sb R' => h h' sb R'.t
theorem led_both {t u : SetTable} (h1 : w.params.followText "set-order" = true ∨ t.led = true) (h2 : w.params.followText "set-order" = true ∨ u.led = true) : w.params.followText "set-order" = true ∨ (t.led && u.led) = true := by
  rcases h1 with h | h
  · exact .inl h
  · rcases h2 with g | g
    · exact .inl g
    · exact .inr (by rw [h, g]; rfl)
theorem room_new {more : Nat} {Q : Unit → Shared → Prop} (R : SetD P w s.heap a [] D) (hd : D.2.2.dummies = #[]) (hm : D.2.2.mask = 7) (h5 : more ≤ 5)
    (k : ∀ h1 D1, Heap.SameBut a s.heap h1 → SetD P w h1 a [] D1 → D1.2.2.dummies = #[] → Cov D1.2.2.mask → more ≤ D1.2.2.mask → Q () { s with heap := h1 }) : wpAny (model P w) A (setRoomFor a more) Q E s := by
  refine room_x R (by rw [List.length_nil]; omega) (fun hn => k s.heap D (Heap.SameBut.refl a s.heap) R hd (by rw [hm]; exact cov7) ?_) (fun h1 D1 m sb R1 e c hle hd1 => k h1 D1 sb R1 hd1 (by rw [e]; exact c) (by rw [e]; rw [List.length_nil] at hle; omega))
  have hp : D.2.2.place.size = 0 := R.place
  unfold SetTable.roomFor SetTable.fill at hn
  rw [hp, hd, hm] at hn
  rw [hm]
  omega
theorem merge_new {each : Sem Unit} {Q : Unit → Shared → Prop} (R : SetD P w s.heap a [] D) (hd : D.2.2.dummies = #[]) (hm : D.2.2.mask = 7) (O : SetD P w s.heap b l C) (hab : a ≠ b) (hl5 : l.length ≤ 5)
    (h : ∀ h', Heap.SameBut a s.heap h' → SetT P w h' a l → Q () { s with heap := h' }) : wpAny (model P w) A (setMerge a b each) Q E s := by
  unfold setMerge
  rw [if_neg (by simpa using hab)]
  refine wpAny_bind (O.state ?_)
  dsimp only
  have hsz : C.1.size = l.length := O.2.1.sz
  by_cases h0 : l = []
  · subst h0
    have : C.1.isEmpty = true := by simp [Array.isEmpty, hsz]
    rw [if_pos this]
    exact wpAny_pure (h _ (Heap.SameBut.refl a s.heap) R.t)
  have : ¬ C.1.isEmpty = true := by
    simp only [Array.isEmpty, hsz]
    simpa using h0
  rw [if_neg this]
  refine wpAny_bind (room_new R hd hm (by rw [hsz]; exact hl5) fun h1 D1 sb R1 hd1 c1 hle => ?_)
  have O1 : SetD P w h1 b l C := O.at fun o e => (sb.2 b (Ne.symm hab)).trans e
  refine wpAny_bind (R1.state (s := { s with heap := h1 }) ?_)
  dsimp only
  have hp1 : D1.2.2.place.size = 0 := R1.place
  have hfill : D1.2.2.fill = 0 := by
    unfold SetTable.fill
    rw [hp1, hd1]
    rfl
  have hled := led_both R1.2.2.2.2 O.2.2.2.2
  by_cases hr : (D1.2.2.mask == C.2.2.mask && C.2.2.dummies.isEmpty) = true
  · have hroad : D1.2.2.road C.2.2 = .slotForSlot := by
      unfold SetTable.road
      rw [hfill, if_neg (by decide), if_pos hr]
    rw [hroad]
    dsimp only
    exact store_copy (s := { s with heap := h1 }) R1 O1 hl5 hled fun h' sb' T => h h' (sb.trans sb') T
  · have hroad : D1.2.2.road C.2.2 = .clean := by
      unfold SetTable.road
      rw [hfill, if_neg (by decide), if_neg hr]
    rw [hroad]
    dsimp only
    have hsz2 : (C.1.map (·.1)).size = l.length := by rw [Array.size_map]; exact hsz
    rw [hsz] at hle
    obtain ⟨t', order, e, N⟩ := laid_anew c1 (hs := C.1.map (·.1)) (by rw [hsz2]; exact hle) D1.2.2.finger D1.2.2.moves (D1.2.2.led && C.2.2.led) (D1.2.2.plain && C.2.2.plain)
    rw [hsz2] at N
    rw [e]
    have hperm : (order.filterMap (C.1[·]?)).toList.Perm C.1.toList := ordered (by rw [hsz]; exact N.perm)
    have hps : (order.filterMap (C.1[·]?)).size = C.1.size := by rw [← Array.length_toList, hperm.length_eq, Array.length_toList]
    refine wpAny_bind ?_
    show wpAny (model P w) A (if ((order.filterMap (C.1[·]?)).size != C.1.size) = true then _ else pure (order.filterMap (C.1[·]?), t')) _ E _
    rw [if_neg (by rw [hps]; simp)]
    refine wpAny_pure ?_
    have F := O1.2.1.perm (ep' := D1.2.1 + 1) (t' := t') hperm (fits_of (by rw [N.size, hps, hsz]) N.dum N.mask (by rw [hps, hsz]; exact hle))
    exact store_x (s := { s with heap := h1 }) R1 F O.2.2.1 N.ris (by rw [N.led]; exact hled) (by rw [hps, hsz]; unfold scanBound; omega) fun h' sb' T => h h' (sb.trans sb') T.t
end
end Lw

namespace Lw
open PySem PySem.Spec PyProof.Rows L2
open PySem.Froz (SD sObj TxOk upd_const get_upd)
open MeetsSeq2
section
variable {P : Program} {w : World} {A : Around} {E : Value → Shared → Prop} {s : Shared} {a b : Addr} {l k : List Str} {D C : SD}
/-- the elements are texts with their hashes -/
theorem SetD.elem {h : Heap} (R : SetD P w h a l D) {e : Int × Value} (he : e ∈ D.1.toList) : ∃ z u, e = (hashStr w z, .str z u) ∧ z ∈ l := by
  obtain ⟨⟨z, h1, h2⟩, _⟩ := R.2.1.el e he
  obtain ⟨u, hu⟩ := Value.isStrOf_shape h1
  refine ⟨z, u, ?_, (R.2.1.mem z).mpr ⟨e, he, h1⟩⟩
  obtain ⟨e1, e2⟩ := e
  simp only at h2 hu
  rw [h2, hu]
  rfl
theorem quiet_x {sets : List Addr} {Q : Bool → Shared → Prop} (hs : ∀ c ∈ sets, ∃ l D, SetD P w s.heap c l D) (h : Q true s) : wpAny (model P w) A (setsQuiet sets) Q E s := by
  unfold setsQuiet
  refine wpAny_bind (wpAny_forIn_list _ (fun rest r s' => r = (none, ()) ∧ s' = s ∧ ∀ c ∈ rest, ∃ l D, SetD P w s.heap c l D) _ (fun c rest r s' hh => ?_) (fun r s' hh => ?_) sets _ ⟨rfl, rfl, hs⟩)
  · obtain ⟨hr, hs', hm⟩ := hh
    cases hr
    rw [hs']
    obtain ⟨l, D, R⟩ := hm c List.mem_cons_self
    unfold setEntries
    refine wpAny_bind (wpAny_bind (R.state (wpAny_pure ?_)))
    refine wpAny_bind (wpAny_forIn_array _ (fun rest r s' => r = (none, ()) ∧ s' = s ∧ ∀ e ∈ rest, e ∈ D.1.toList) _ (fun e rest' r s' hh => ?_) (fun r s' hh => ?_) D.1 _ ⟨rfl, rfl, fun e he => he⟩)
    · obtain ⟨hr, hs', he⟩ := hh
      cases hr
      rw [hs']
      obtain ⟨z, u, rfl, _⟩ := R.elem (he _ List.mem_cons_self)
      exact wpAny_pure ⟨rfl, rfl, fun e h => he e (List.mem_cons_of_mem _ h)⟩
    · obtain ⟨hr, hs', _⟩ := hh
      cases hr
      rw [hs']
      exact wpAny_pure ⟨rfl, rfl, fun c h => hm c (List.mem_cons_of_mem _ h)⟩
  · obtain ⟨hr, hs', _⟩ := hh
    cases hr
    rw [hs']
    exact wpAny_pure h
theorem walk_x {Q : Array (Int × Value) → Shared → Prop} (O : SetD P w s.heap b l C) (hc : w.params.followText "set-order" = true ∨ (C.2.2.led = true ∧ C.2.2.plain = true) ∨ C.1.size ≤ 1) (h : ∀ xs : Array (Int × Value), xs.toList.Perm C.1.toList → Q xs s) : wpAny (model P w) A (setWalk b) Q E s := by
  unfold setWalk
  refine wpAny_bind (O.state ?_)
  dsimp only
  refine wpAny_bind (wpAny_byText ?_)
  by_cases ht : w.params.followText "set-order" = true
  · rw [if_pos ht]
    exact wpAny_bind (wpAny_askSetting (wpAny_pure (h _ (pick_perm _ _))))
  · rw [if_neg ht]
    have hc' := hc.resolve_left ht
    have hled : C.2.2.led = true := O.2.2.2.2.resolve_left ht
    show wpAny (model P w) A (if (!C.2.2.plain && decide (C.1.size > 1)) = true then _ else _) Q E s
    rw [if_neg (by
      rcases hc' with ⟨_, hp⟩ | hz
      · simp [hp]
      · simp; omega)]
    refine wpAny_bind ?_
    show wpAny (model P w) A (if (!C.2.2.led && decide (C.1.size > 1)) = true then _ else pure ()) _ E s
    rw [if_neg (by simp [hled])]
    exact wpAny_pure (wpAny_pure (h _ (List.Perm.refl _)))
/-- the elements of a set that goes into another one -/
theorem unseen_x {Q : Array (Int × Value) → Shared → Prop} (R : SetD P w s.heap a k D) (O : SetD P w s.heap b l C) (hk : k.length ≤ 5)
    (h : ∀ (xs : Array (Int × Value)) h1 D1, xs.toList.Perm C.1.toList → Heap.SameBut a s.heap h1 → SetD P w h1 a k D1 → Q xs { s with heap := h1 }) : wpAny (model P w) A (setWalkUnseen b [a] (some a)) Q E s := by
  unfold setWalkUnseen
  refine wpAny_bind (O.state ?_)
  dsimp only
  refine wpAny_bind (wpAny_byText ?_)
  by_cases hc : (w.params.followText "set-order" || C.2.2.led && C.2.2.plain || decide (C.1.size ≤ 1)) = true
  · rw [if_pos hc]
    refine walk_x O ?_ fun xs hx => h xs s.heap D hx (Heap.SameBut.refl a s.heap) R
    rw [Bool.or_eq_true, Bool.or_eq_true, Bool.and_eq_true] at hc
    rcases hc with (h1 | h1) | h1
    · exact .inl h1
    · exact .inr (.inl h1)
    · exact .inr (.inr (by simpa using h1))
  · rw [if_neg hc]
    refine wpAny_bind (quiet_x (fun c hc => ?_) ?_)
    · rcases List.mem_cons.mp hc with rfl | hc
      · exact ⟨_, _, O⟩
      · rw [List.mem_singleton.mp hc]
        exact ⟨_, _, R⟩
    · rw [if_neg (by decide)]
      refine wpAny_bind (wpAny_rule ?_)
      refine wpAny_bind (R.state ?_)
      dsimp only
      split
      · have F := R.2.1
        refine wpAny_bind (store_x R (l' := k) ⟨F.el, F.mem, F.sz, F.fit⟩ R.2.2.1 R.2.2.2.1 (led_both R.2.2.2.2 O.2.2.2.2) (by rw [F.sz]; unfold scanBound; omega) fun h' sb R' => wpAny_pure (h C.1 h' _ (List.Perm.refl _) sb R'))
      · exact wpAny_pure (h C.1 s.heap D (List.Perm.refl _) (Heap.SameBut.refl a s.heap) R)
/-- a set's elements go one by one into another one that has some already -/
theorem merge_more {each : Sem Unit} {Q : Unit → Shared → Prop} (R : SetD P w s.heap a k D) (O : SetD P w s.heap b l C) (hab : a ≠ b) (hk0 : k ≠ []) (hk : k.length ≤ 5) (hl : l.length ≤ 5)
    (he : ∀ (s₁ : Shared) (Q' : Unit → Shared → Prop), SetD P w s₁.heap b l C → Q' () s₁ → wpAny (model P w) A each Q' E s₁)
    (h : ∀ h' l', Heap.SameBut a s.heap h' → SetT P w h' a l' → (∀ z, z ∈ l' ↔ z ∈ k ∨ z ∈ l) → l'.length ≤ k.length + l.length → Q () { s with heap := h' }) : wpAny (model P w) A (setMerge a b each) Q E s := by
  unfold setMerge
  rw [if_neg (by simpa using hab)]
  refine wpAny_bind (O.state ?_)
  dsimp only
  have hsz : C.1.size = l.length := O.2.1.sz
  by_cases h0 : l = []
  · subst h0
    have : C.1.isEmpty = true := by simp [Array.isEmpty, hsz]
    rw [if_pos this]
    exact wpAny_pure (h _ k (Heap.SameBut.refl a s.heap) R.t (fun z => by simp) (by omega))
  have : ¬ C.1.isEmpty = true := by
    simp only [Array.isEmpty, hsz]
    simpa using h0
  rw [if_neg this]
  have hkl : 0 < k.length := List.length_pos_iff.mpr hk0
  refine wpAny_bind (wpAny_mono (Q := fun _ s' => ∃ h1 D1, s' = { s with heap := h1 } ∧ Heap.SameBut a s.heap h1 ∧ SetD P w h1 a k D1) (room_x R (by rw [hsz]; omega) (fun _ => ⟨s.heap, D, rfl, Heap.SameBut.refl a s.heap, R⟩) fun h1 D1 m sb R1 _ _ _ _ => ⟨h1, D1, rfl, sb, R1⟩) (fun _ s' hh => ?_) fun _ _ e => e)
  obtain ⟨h1, D1, rfl, sb, R1⟩ := hh
  have O1 : SetD P w h1 b l C := O.at fun o e => (sb.2 b (Ne.symm hab)).trans e
  refine wpAny_bind (R1.state (s := { s with heap := h1 }) ?_)
  dsimp only
  have hroad : D1.2.2.road C.2.2 = .oneByOne := by
    have hp1 : D1.2.2.place.size = k.length := R1.place
    unfold SetTable.road SetTable.fill
    rw [hp1, if_pos]
    rw [bne_iff_ne]
    omega
  rw [hroad]
  dsimp only
  refine wpAny_bind (unseen_x (s := { s with heap := h1 }) R1 O1 hk fun xs h2 D2 hx sb2 R2 => ?_)
  have hxl : xs.toList.length = l.length := by rw [hx.length_eq, Array.length_toList, hsz]
  refine wpAny_bind (wpAny_forIn_array _ (fun rest _ s' => ∃ h3 l3, s' = { s with heap := h3 } ∧ Heap.SameBut a s.heap h3 ∧ SetT P w h3 a l3 ∧ (∀ e ∈ rest, e ∈ C.1.toList) ∧ (∀ z, z ∈ l3 → z ∈ k ∨ z ∈ l) ∧ (∀ z ∈ k, z ∈ l3) ∧ (∀ z ∈ l, z ∈ l3 ∨ ∃ e ∈ rest, ∃ u, e.2 = .str z u) ∧ l3.length + rest.length ≤ k.length + l.length) _
    (fun e rest r s' hh => ?_) (fun r s' hh => ?_) xs _ ⟨h2, k, rfl, sb.trans sb2, R2.t, fun e he => hx.mem_iff.mp he, fun z hz => .inl hz, fun z hz => hz, fun z hz => ?_, by rw [hxl]; exact Nat.le_refl _⟩)
  · obtain ⟨h3, l3, rfl, sb3, T3, m1, m2, m3, m4, m5⟩ := hh
    rw [List.length_cons] at m5
    obtain ⟨z, u, rfl, hzl⟩ := O.elem (m1 e List.mem_cons_self)
    refine wpAny_bind (wpAny_holding (setT_add (s := { s with heap := h3 }) T3 (by unfold scanBound; omega) fun added h4 l4 sb4 T4 m hlen => ?_))
    have sb34 := sb3.trans sb4
    have O4 : SetD P w h4 b l C := O.at fun o e => (sb34.2 b (Ne.symm hab)).trans e
    refine wpAny_bind (he _ _ O4 ?_)
    refine wpAny_bind (O4.state (s := { s with heap := h4 }) ?_)
    dsimp only
    rw [if_neg (by simp)]
    refine wpAny_pure ⟨h4, l4, rfl, sb34, T4, fun e h => m1 e (List.mem_cons_of_mem _ h), fun y hy => ?_, fun y hy => (m y).mpr (.inr (m3 y hy)), fun y hy => ?_, by omega⟩
    · rcases (m y).mp hy with rfl | h
      · exact .inr hzl
      · exact m2 y h
    · rcases m4 y hy with h | ⟨e, he, u', eu⟩
      · exact .inl ((m y).mpr (.inr h))
      · rcases List.mem_cons.mp he with rfl | he
        · simp only [Value.str.injEq] at eu
          exact .inl ((m y).mpr (.inl eu.1.symm))
        · exact .inr ⟨e, he, u', eu⟩
  · obtain ⟨h3, l3, rfl, sb3, T3, m1, m2, m3, m4, m5⟩ := hh
    exact wpAny_pure (h h3 l3 sb3 T3 (fun z => ⟨m2 z, fun hz => hz.elim (m3 z) fun hz => (m4 z hz).resolve_right fun ⟨e, he, _⟩ => by cases he⟩) (by rw [List.length_nil] at m5; omega))
  · obtain ⟨e, he, hs⟩ := (O.2.1.mem z).mp hz
    obtain ⟨u, hu⟩ := Value.isStrOf_shape hs
    exact .inr ⟨e, hx.mem_iff.mpr he, u, hu⟩
end
end Lw

namespace Lw
open PySem PySem.Spec PyProof.Rows L2
open PySem.Froz (SD sObj TxOk upd_const get_upd)
open AutoSeq1 (wpAny_loadPart')
section
variable {P : Program} {w : World} {A : Around} {E : Value → Shared → Prop} {s : Shared} {a b : Addr} {l k : List Str} {D C : SD}
theorem anySet_x {Q : Bool → Shared → Prop} (R : SetD P w s.heap a k D) (h : Q true s) : wpAny (model P w) A (Builtin.Frozenset.isAnySet (.ref a)) Q E s := by
  have e : s.heap.get? a = some { cls := .type "set", data := .set D.1 D.2.1 D.2.2 } := R.1
  obtain ⟨hp, g, d, tk, os⟩ := s
  unfold Builtin.Frozenset.isAnySet
  have f := PySem.sub_set_self
  wp_walk using wpAny_loadPart' e
  exact h
theorem merge_nil {each : Sem Unit} {Q : Unit → Shared → Prop} (O : SetD P w s.heap b [] C) (hab : a ≠ b) (h : Q () s) : wpAny (model P w) A (setMerge a b each) Q E s := by
  unfold setMerge
  rw [if_neg (by simpa using hab)]
  refine wpAny_bind (O.state ?_)
  dsimp only
  have hsz : C.1.size = 0 := O.2.1.sz
  rw [if_pos (by simp [Array.isEmpty, hsz])]
  exact wpAny_pure h
theorem fresh_set {h : Heap} : SetD P w (h.push { cls := .type "set", dict := none, data := .set #[] 0 (.fresh 0 0 (!w.params.followText "set-order")) }) h.objs.size [] (#[], 0, .fresh 0 0 (!w.params.followText "set-order")) := by
  refine ⟨Heap.get?_push_size _ rfl, TxOk.nil (by rfl), List.nodup_nil, ?_, ?_⟩
  · exact List.Pairwise.nil
  · show _ ∨ (!w.params.followText "set-order") = true
    cases w.params.followText "set-order" <;> simp
/-- what the second set's elements find: the copy of the first one's -/
theorem upd_x {id : String} {Q : Unit → Shared → Prop} (O : SetD P w s.heap b l C) (hm : ∀ each : Sem Unit, (∀ (s₁ : Shared) (Q' : Unit → Shared → Prop), SetD P w s₁.heap b l C → Q' () s₁ → wpAny (model P w) A each Q' E s₁) → wpAny (model P w) A (setMerge a b each) Q E s) :
    wpAny (model P w) A (Builtin.Frozenset.updateFrom id a (.ref b)) Q E s := by
  unfold Builtin.Frozenset.updateFrom
  refine wpAny_bind (anySet_x O ?_)
  simp only [if_true]
  unfold Builtin.Frozenset.addrOf
  refine wpAny_bind (wpAny_pure ?_)
  unfold Builtin.Frozenset.merge setEpoch
  refine wpAny_bind (wpAny_bind (O.state (wpAny_pure ?_)))
  refine hm _ fun s₁ Q' O1 hq => ?_
  unfold Builtin.Frozenset.unchanged setEpoch
  refine wpAny_bind (wpAny_bind (O1.state (wpAny_pure ?_)))
  rw [if_neg (by simp)]
  exact wpAny_pure hq
theorem or_x {Q : Fin → Shared → Prop} (R : SetD P w s.heap a k D) (O : SetD P w s.heap b l C) (hab : a ≠ b) (hk : k.length ≤ 5) (hl : l.length ≤ 5)
    (h : ∀ h' l', SetT P w h' s.heap.objs.size l' → (∀ z, z ∈ l' ↔ z ∈ k ∨ z ∈ l) → l'.length ≤ k.length + l.length → (∀ c o, s.heap.get? c = some o → h'.get? c = some o) → Q (.done (.ret (.ref s.heap.objs.size))) { s with heap := h' }) :
    wpAny (model P w) A (Builtin.«frozenset.__or__» ⟨[.ref a, .ref b], []⟩) Q E s := by
  have e1 : s.heap.get? a = some { cls := .type "set", data := .set D.1 D.2.1 D.2.2 } := R.1
  have e2 : s.heap.get? b = some { cls := .type "set", data := .set C.1 C.2.1 C.2.2 } := O.1
  have f := PySem.sub_set_self
  unfold Builtin.«frozenset.__or__»
  obtain ⟨hp, g, d, tk, os⟩ := s
  wp_walk using wpAny_loadPart' e1, wpAny_loadPart' e2
  refine wpAny_askSetting (wpAny_pure ?_)
  simp only [if_true, Bool.false_eq_true, if_false]
  refine wpAny_newObj_type ?_
  unfold Builtin.Frozenset.addrOf
  refine wpAny_bind (wpAny_pure ?_)
  have R0 := fresh_set (P := P) (w := w) (h := hp)
  have hz : ∀ c o, hp.get? c = some o → c ≠ hp.objs.size := fun c o e q => Nat.lt_irrefl hp.objs.size (by have := Heap.lt_size e; rw [q] at this; exact this)
  have R1 : SetD P w (hp.push { cls := .type "set", dict := none, data := .set #[] 0 (.fresh 0 0 (!w.params.followText "set-order")) }) a k D := R.at fun o e => Heap.get?_push_of_some _ e
  have O1 : SetD P w (hp.push { cls := .type "set", dict := none, data := .set #[] 0 (.fresh 0 0 (!w.params.followText "set-order")) }) b l C := O.at fun o e => Heap.get?_push_of_some _ e
  have hpa := (hz _ _ R.1).symm
  have hpb := (hz _ _ O.1).symm
  have hbne : ((Value.ref b != Value.ref a) = true) := by simpa using hab.symm
  have kp : ∀ h', Heap.SameBut hp.objs.size (hp.push { cls := .type "set", dict := none, data := .set #[] 0 (.fresh 0 0 (!w.params.followText "set-order")) }) h' → ∀ c o, hp.get? c = some o → h'.get? c = some o := fun h' sb c o e => (sb.2 c (hz c o e)).trans (Heap.get?_push_of_some _ e)
  by_cases hk0 : k = []
  · subst hk0
    refine wpAny_bind (merge_nil (s := ⟨_, g, d, tk, os⟩) R1 hpa ?_)
    refine wpAny_pure ?_
    rw [if_pos hbne]
    refine wpAny_bind (wpAny_pure ?_)
    refine wpAny_bind (wpAny_holding (upd_x (s := ⟨_, g, d, tk, os⟩) O1 fun each he => merge_new (s := ⟨_, g, d, tk, os⟩) R0 rfl rfl O1 hpb hl fun h' sb T => ?_))
    exact wpAny_pure (wpAny_pure (h h' l T (fun z => by simp) (by simp) (kp h' sb)))
  · refine wpAny_bind (merge_new (s := ⟨_, g, d, tk, os⟩) R0 rfl rfl R1 hpa hk fun h1 sb1 T1 => ?_)
    obtain ⟨D1, R2⟩ := T1.d
    have O2 : SetD P w h1 b l C := O1.at fun o e => (sb1.2 b hpb.symm).trans e
    refine wpAny_pure ?_
    rw [if_pos hbne]
    refine wpAny_bind (wpAny_pure ?_)
    refine wpAny_bind (wpAny_holding (upd_x (s := ⟨h1, g, d, tk, os⟩) O2 fun each he => merge_more (s := ⟨h1, g, d, tk, os⟩) R2 O2 hpb hk0 hk hl he fun h' l' sb T m hlen => ?_))
    exact wpAny_pure (wpAny_pure (h h' l' T m hlen (kp h' (sb1.trans sb))))
end
end Lw

namespace Lw
open PySem PySem.Spec PyProof.Rows L2
open PySem.Froz (SD sObj TxOk addTx tailTx)
section
variable {P : Program} {w : World} {A : Around} {E : Value → Shared → Prop} {s : Shared}
/-- set(tuple of texts) -/
theorem call_setTxT {p : Addr} {items : Array Value} {ws : List Str} {Q : Value → Shared → Prop} (hh : A.handled = none) (hl : s.heap.IsTuple p items) (hn : items.size = ws.length) (hb : ws.length + 1 < scanBound) (hval : ∀ (i : Nat) (v : Value), items[i]? = some v → ∃ k u, ws[i]? = some k ∧ v = .str k u)
    (h : ∀ (h' : Heap) (tk : Nat) (l : List Str), SetT P w h' s.heap.objs.size l → (∀ z, z ∈ l ↔ z ∈ ws) → l.length ≤ ws.length → (∀ b o, s.heap.get? b = some o → h'.get? b = some o) → Q (.ref s.heap.objs.size) { s with heap := h', toks := tk }) :
    wpAny (model P w) A (call (.type "set") [.ref p]) Q E s := by
  refine callType_set ?_
  have hS : (s.heap.push { cls := .type "set", dict := none, data := .set #[] 0 (.fresh 0 0 (!w.params.followText "set-order")) }).get? s.heap.objs.size = some { cls := .type "set", dict := none, data := .set #[] 0 (.fresh 0 0 (!w.params.followText "set-order")) } := Heap.get?_push_size _ rfl
  obtain ⟨ol, hol, hcl, nl, hdl⟩ := hl
  obtain ⟨ocls, odict, odata, oslots⟩ := ol
  simp only at hcl hdl
  subst hcl
  subst hdl
  have own : (s.heap.push { cls := .type "set", dict := none, data := .set #[] 0 (.fresh 0 0 (!w.params.followText "set-order")) }).get? p = some { cls := .type "tuple", dict := odict, data := .seq items nl, slots := oslots } := Heap.get?_push_of_some _ hol
  have isL : (s.heap.push { cls := .type "set", dict := none, data := .set #[] 0 (.fresh 0 0 (!w.params.followText "set-order")) }).IsTuple p items := ⟨_, own, rfl, nl, rfl⟩
  have s1 := F.sub_tuple_set
  have s2 := F.sub_tuple_frozenset
  have s3 : (Value.type "tuple" == Value.type "dict") = false := by decide
  unfold Builtin.«set.__init__» noKeywords Builtin.Frozenset.updateFrom
  generalize hPI : pyIter = PI
  wp_walk
  subst hPI
  refine wpAny_pyIter_tuple isL ?_
  refine wpAny_bind (wpAny_runValue ?_)
  have lt : p < s.heap.objs.size := Heap.lt_size hol
  have hz : (s.heap.push { cls := .type "set", dict := none, data := .set #[] 0 (.fresh 0 0 (!w.params.followText "set-order")) }).objs.size = s.heap.objs.size + 1 := Heap.size_push ..
  have calm : A.in1.in1.in1.handled = none := by simp [hh]
  have neI : p ≠ (s.heap.push { cls := .type "set", dict := none, data := .set #[] 0 (.fresh 0 0 (!w.params.followText "set-order")) }).objs.size := by
    rw [hz]
    exact Nat.ne_of_lt (Nat.lt_succ_of_lt lt)
  have outS : s.heap.objs.size ∉ [(s.heap.push { cls := .type "set", dict := none, data := .set #[] 0 (.fresh 0 0 (!w.params.followText "set-order")) }).objs.size, p] := by
    rw [hz]
    intro q
    rcases List.mem_cons.mp q with q | q
    · exact absurd q (Nat.ne_of_lt (Nat.lt_succ_self _))
    · exact absurd (List.mem_singleton.mp q) (Nat.ne_of_gt lt)
  refine set_takes ((Walks.tuple calm _ p neI items).toS) outS ws hn (by omega) hval items.size 0 _ [] (by omega) ⟨⟨_, Heap.get?_push_size _ rfl, rfl, rfl⟩, isL.push _⟩ ⟨(#[], 0, .fresh 0 0 (!w.params.followText "set-order")), Heap.get?_push_of_some _ hS, PySem.Froz.TxOk.nil (by rfl), List.nodup_nil, List.Pairwise.nil, ?_⟩ (fun z => by simp) (Nat.le_refl _) fun s' l' hm hS' hl' hc' => ?_
  · show _ ∨ (!w.params.followText "set-order") = true
    cases w.params.followText "set-order" <;> simp
  · obtain ⟨h', g2, d2, tk2, os2⟩ := s'
    have e1 : g2 = s.gens := hm.gens
    have e2 : d2 = s.drawn := hm.drawn
    have e3 : os2 = s.os := hm.os
    subst e1 e2 e3
    refine wpAny_pure (wpAny_pure ⟨rfl, h h' tk2 l' hS' hl' (by omega) fun b o e => hm.heap b o ?_ (Heap.get?_push_of_some _ (Heap.get?_push_of_some _ e))⟩)
    have lb := Heap.lt_size e
    rw [hz]
    intro q
    rcases List.mem_cons.mp q with q | q
    · exact absurd q (Nat.ne_of_lt lb)
    · exact absurd (List.mem_singleton.mp q) (Nat.ne_of_lt (Nat.lt_succ_of_lt lb))
end
/-! ### set(t) of a list or tuple of texts, set | set -/
def rSetTxA (K : PySem.W.Frag) (P : Program) (w : World) : List V → Hp → VK → Prop := fun vs H Q => ∃ (p : Addr) (ws : List Str), vs = [.ref p] ∧ SqT K H p (ws.map V.str) ∧ ws.length < 1000 ∧ ∀ a l, H a = none → (∀ z, z ∈ l ↔ z ∈ ws) → l.Nodup → l.length ≤ ws.length → Q (.ref a) (upd H a (SetTO P w a l))
def rUnion (P : Program) (w : World) : R2 := fun x y H Q => ∃ (a b : Addr) (k l : List Str), x = .ref a ∧ y = .ref b ∧ a ≠ b ∧ H a = some (SetTO P w a k) ∧ H b = some (SetTO P w b l) ∧ k.length ≤ 5 ∧ l.length ≤ 5 ∧
  ∀ p l', H p = none → (∀ z, z ∈ l' ↔ z ∈ k ∨ z ∈ l) → l'.Nodup → l'.length ≤ k.length + l.length → Q (.ref p) (upd H p (SetTO P w p l'))
theorem entry_set_or : entryFor table "set.__or__" = some Builtin.«frozenset.__or__» := entryFor_alias (id' := "frozenset.__or__") (by kernel_rfl) (by kernel_rfl) (by decide +kernel) (by kernel_rfl)
section
variable {X : Cx}
theorem cr_setTxA (hc : X.calm = true) : CallR X (.type "set") (rSetTxA X.K X.prog X.w) := by
  intro pins s σ H vs us Q I r h
  obtain ⟨p, ws, rfl, hq, hl, q⟩ := h
  obtain ⟨u, rfl, rx⟩ := vals1 r
  cases rx
  obtain ⟨its, rv, tp, hz⟩ := I.tuple hq
  have hn : its.length = ws.length := by rw [← rv.length, List.length_map]
  refine call_setTxT (I.ok.hd hc) tp (ws := ws) (by rw [List.size_toArray]; exact hn) (by unfold scanBound; omega) (fun i v hv => ?_) fun h' tk l hS hm hc' kk => ?_
  · have hv' : its[i]? = some v := by simpa using hv
    have hi : i < ws.length := by
      rw [← hn]
      exact (List.getElem?_eq_some_iff.mp hv').1
    obtain ⟨v2, e2, r2⟩ := rv.get (i := i) (x := .str ws[i]) (by rw [List.getElem?_map, List.getElem?_eq_getElem hi]; rfl)
    rw [hv'] at e2
    cases e2
    obtain ⟨t, rfl⟩ := r2
    exact ⟨ws[i], t, List.getElem?_eq_getElem hi, rfl⟩
  · exact ⟨.ref _, _, I.laid (t' := tk) (o := SetTO X.prog X.w s.heap.objs.size l) (fun b o e => kk b o e) (Nat.le_refl _) (setTO_ok hS), rfl, q _ l (I.hok.fresh (Nat.le_refl _)) hm hS.nodup hc'⟩
theorem op_union : OpR X (binaryOp .BitOr) (rUnion X.prog X.w) := by
  intro pins s σ H x y u v Q I rx ry h
  obtain ⟨a, b, k, l, rfl, rfl, hab, ha, hb, hk, hl, q⟩ := h
  cases rx
  cases ry
  obtain ⟨D, R⟩ := (setTO_get I ha).d
  obtain ⟨C, O⟩ := (setTO_get I hb).d
  have ta : s.TypeIs (.ref a) "set" := ⟨_, R.1, rfl⟩
  have tb : s.TypeIs (.ref b) "set" := ⟨_, O.1, rfl⟩
  refine wpAny_binaryOp_same ta tb F.fills_set_or F.slot_set_or (LwN.call_here F.slot_set_or ta entry_set_or (F.args_set_or_2 _ _) ?_)
  refine or_x R O hab hk hl fun h' l' T m hlen kk => ?_
  refine ⟨(fun e => nomatch e), ?_⟩
  exact ⟨.ref _, _, I.laid (t' := s.toks) (o := SetTO X.prog X.w s.heap.objs.size l') (fun b o e => kk b o e) (Nat.le_refl _) (setTO_ok T), rfl, q _ l' (I.hok.fresh (Nat.le_refl _)) m T.nodup hlen⟩
end
end Lw

namespace Lw
open PySem PySem.Spec PyProof.Rows L2
theorem k_notInD {X : Cx} (K : PySem.W.Frag) (hu : X.A.units + 65 < cLine) (h : X.K = K := by rfl) : OpR X (compareOp .NotIn) (rInDS K true) := by
  subst h
  intro pins s σ H x y v u Q I rx ry h
  obtain ⟨d, ds, hd, he, sd, se, q⟩ := h
  obtain ⟨as, r1⟩ := Dp.reads I d x v hd rx
  have s1 := SeqAt.canLay_of_shaped se
  rcases he with he | he
  · obtain ⟨bs, r2⟩ := Dp.reads I (.list ds) y u he ry
    exact SeqAt.notIn_list_reads r2 r1 s1 (SeqAt.canLay_of_shaped sd) (room_in_shaped sd hu) ⟨.bl _, H, I, rfl, q⟩
  · obtain ⟨bs, r2⟩ := Dp.reads I (.tuple ds) y u he ry
    exact SeqAt.notIn_tuple_reads r2 r1 s1 (SeqAt.canLay_of_shaped sd) (room_in_shaped sd hu) ⟨.bl _, H, I, rfl, q⟩
section
open Evl
variable {K : PySem.W.Frag} {P : Program} {w : World} {σ : L2.St} {H : Hp} {te ue : TE}
/-- sorted(set(one) | set(other)), of texts -/
theorem el_union {p q : Addr} {xs ys : List Str} (h1 : Ev te σ H (.ref p)) (hx : SqT K H p (xs.map V.str)) (h2 : Ev ue σ H (.ref q)) (hy : SqT K H q (ys.map V.str)) (lx : xs.length ≤ 5) (ly : ys.length ≤ 5) :
    EvL (tCB (rSortTx P w) (tCons (tOp (rUnion P w) (tCB (rSetTxA K P w) (tCons te tNil)) (tCB (rSetTxA K P w) (tCons ue tNil))) tNil)) σ H ((sd (xs ++ ys)).map V.str) := fun H1 e Q k =>
  h1 H1 e _ fun H2 e2 => ⟨p, xs, rfl, ex_t (e.trans e2) hx, by omega, fun a l na hm nd hc => by
    have ea : Ex H2 (upd H2 a (SetTO P w a l)) := Ex.new na
    refine h2 _ ((e.trans e2).trans ea) _ fun H3 e3 => ⟨q, ys, rfl, ex_t (((e.trans e2).trans ea).trans e3) hy, by omega, fun b m nb hm2 nd2 hc2 => ?_⟩
    have eb : Ex H3 (upd H3 b (SetTO P w b m)) := Ex.new nb
    have ha : H3 a = some (SetTO P w a l) := e3 _ _ upd_same
    have ne : a ≠ b := fun z => by
      subst z
      rw [nb] at ha
      cases ha
    refine ⟨a, b, l, m, rfl, rfl, ne, (upd_ne ne).trans ha, upd_same, by omega, by omega, fun u z nu hm3 nd3 hc3 => ?_⟩
    have eu : Ex (upd H3 b (SetTO P w b m)) (upd (upd H3 b (SetTO P w b m)) u (SetTO P w u z)) := Ex.new nu
    refine ⟨u, z, rfl, upd_same, by omega, fun r nr => ?_⟩
    rw [sd_of (ws := xs ++ ys) nd3 (fun t => by rw [hm3, hm, hm2, List.mem_append])]
    exact k r _ (fresh_back ((((e2.trans ea).trans e3).trans eb).trans eu) nr) (((((e2.trans ea).trans e3).trans eb).trans eu).trans (Ex.new nr)) upd_same⟩
end
end Lw

namespace Lw
open PySem PySem.Spec PyProof.Rows L2
/-- dict(zip(a, b)), a's items tuples: a dict of them -/
def tDZip (K : PySem.W.Frag) (ta : TA) : TE := fun σ H Q => ta σ H fun (vs : List V) (H2 : Hp) => ∃ (a b : Addr) (xs ys : List V) (ks : List (List L2.Key)), vs = [.ref a, .ref b] ∧ SqL K H2 a xs ∧ SqL K H2 b ys ∧ xs.length = ks.length ∧ ys.length = ks.length ∧ ks.length ≤ 1000 ∧ ks.Nodup ∧
  (∀ (i : Nat) (k : List L2.Key), ks[i]? = some k → ∃ q : Addr, xs[i]? = some (V.ref q) ∧ H2 q = some (.tup (k.map kV))) ∧ ∀ d, H2 d = none → Q (.ref d) (upd H2 d (.dT (ks.zip ys)))
theorem vals_each2 {P : Program} {w : World} : ∀ {k : List L2.Key} {its : List Value}, Vals (k.map kV) its → PySem.ItemsAre (mixKind P w) k its
  | [], [], _ => .nil
  | k :: ks, i :: is, h => by
    cases h with
    | cons h t =>
      refine .cons ?_ (vals_each2 t)
      cases k with
      | inl n =>
        obtain ⟨t, rfl⟩ := h
        simp [mixKind, keyIs, Value.isInt]
      | inr n =>
        obtain ⟨t, rfl⟩ := h
        simp [mixKind, keyIs, Value.isStrOf]
theorem tupkey_of {P : Program} {w : World} {H : Hp} {h : Heap} {q : Addr} {k : List L2.Key} (ok : HOk P w H h) (hq : H q = some (.tup (k.map kV))) : IsTupleKey (mixKind P w) h k q := by
  have x : ObjOk P w H h q (.tup (k.map kV)) := ok q _ hq
  obtain ⟨_, its, rv, tp⟩ := x
  obtain ⟨o, h1, h2, n, h3⟩ := tp
  exact ⟨o, its.toArray, n, h1, h2, h3, by simpa using vals_each2 rv⟩
theorem paired_imp {A B : Type} {R S : A → B → Prop} (h : ∀ a b, R a b → S a b) : ∀ {xs : List A} {ys : List B}, Paired R xs ys → Paired S xs ys
  | _, _, .nil => .nil
  | _, _, .cons a b => .cons (h _ _ a) (paired_imp h b)
theorem zip_parts {H : Hp} : ∀ {ks : List (List L2.Key)} {xs ys : List V} {ix iy : List Value}, xs.length = ks.length → ys.length = ks.length → Vals xs ix → Vals ys iy → (∀ (i : Nat) (k : List L2.Key), ks[i]? = some k → ∃ q : Addr, xs[i]? = some (V.ref q) ∧ H q = some (.tup (k.map kV))) →
    ∃ ps : List (List L2.Key × Addr × Value), Paired (fun (p : List L2.Key × V) (q : List L2.Key × Addr × Value) => p.1 = q.1 ∧ H q.2.1 = some (HO.tup (List.map kV p.1)) ∧ L2.RelV p.2 q.2.2) (ks.zip ys) ps ∧ ps.length = ks.length ∧
      (∀ (i : Nat) (key v : Value), ix[i]? = some key ∧ iy[i]? = some v → ∃ (k : List L2.Key) (b : Addr), ps[i]? = some (k, b, v) ∧ key = Value.ref b) ∧ (∀ x, x ∈ ps → H x.2.1 = some (.tup (x.1.map kV))) ∧ ps.map (fun x => x.1) = ks
  | [], [], [], [], [], _, _, _, _, _ => ⟨[], .nil, rfl, (fun i key v h => by simp at h), (fun x h => nomatch h), rfl⟩
  | k :: ks, x :: xs, y :: ys, u :: ix, v :: iy, lx, ly, .cons r1 rx, .cons r2 ry, hk => by
    obtain ⟨q, e, hq⟩ := hk 0 k rfl
    have e' : x = V.ref q := by simpa using e
    subst e'
    cases r1
    obtain ⟨ps, h1, h2, h3, h4, h5⟩ := zip_parts (ks := ks) (by simpa using lx) (by simpa using ly) rx ry (fun i k h => by simpa using hk (i + 1) k (by simpa using h))
    refine ⟨(k, q, v) :: ps, .cons ⟨rfl, hq, r2⟩ h1, by simp [h2], fun i key w h => ?_, fun z hz => ?_, by simp [h5]⟩
    · cases i with
      | zero =>
        obtain ⟨g1, g2⟩ := h
        simp at g1 g2
        subst g1 g2
        exact ⟨k, q, rfl, rfl⟩
      | succ i => simpa using h3 i key w (by simpa using h)
    · rcases List.mem_cons.mp hz with hz | hz
      · subst hz
        exact hq
      · exact h4 z hz
theorem pe_dzip {X : Cx} {ta : TA} {p1 p2 pos1 pos2 : Pos} {e1 e2 : Expr} (hc : X.calm = true) (hu : X.A.units + 9 < cLine) (hg1 : Gl X "dict") (m1 : X.mg "dict" = none) (hg2 : Gl X "zip") (m2 : X.mg "zip" = none) (ha : PA X [e1, e2] ta)
    (he1 : starEach [.Call (.Name "zip" p2) [e1, e2] [] pos2] X.env = (false, eval (.Call (.Name "zip" p2) [e1, e2] [] pos2) X.env) :: starEach [] X.env := by rfl)
    (hp1 : ((backTo pos1 (starEach [] X.env)).any fun (x : Bool × Sem Value) => x.1) = false := by rfl)
    (he2 : starEach [e1, e2] X.env = (false, eval e1 X.env) :: starEach [e2] X.env := by rfl)
    (hp2 : ((backTo pos2 (starEach [e2] X.env)).any fun (x : Bool × Sem Value) => x.1) = false := by rfl) :
    PE X (.Call (.Name "dict" p1) [.Call (.Name "zip" p2) [e1, e2] [] pos2] [] pos1) (tDZip X.K ta) := by
  refine ⟨fun pins s σ H Q I h => ?_⟩
  refine wpAny_Call_Name_kw (ld_blt I hg1 m1 rfl (PyProof.Rows.callWith_type1 ?_ he1 hp1) (by decide) (by decide))
  rw [he1]
  refine Calls.spliced_cons ?_
  refine wpAny_Call_Name_kw (ld_blt I hg2 m2 rfl (PyProof.Rows.callWith_type1 (thn (ha.run pos2 pins s σ H _ I h) fun us s1 ⟨vs, H1, I1, r1, q1⟩ => ?_) he2 hp2) (by decide) (by decide))
  obtain ⟨a, b, xs, ys, ks, rfl, hx, hy, lx, ly, lk, nd, hk, q⟩ := q1
  obtain ⟨u1, us, rfl, ra, r2⟩ := vals2 r1
  cases ra
  cases r2
  obtain ⟨ix, rvx, tpx, zx⟩ := I1.list hx
  obtain ⟨iy, rvy, tpy, zy⟩ := I1.list hy
  obtain ⟨ps, h1, h2, h3, h4, h5⟩ := zip_parts lx ly rvx rvy hk
  have la : a < s1.heap.objs.size := by
    obtain ⟨o, ho, _⟩ := tpx.isList
    exact Heap.lt_size ho
  have lb : b < s1.heap.objs.size := by
    obtain ⟨o, ho, _⟩ := tpy.isList
    exact Heap.lt_size ho
  refine call_zip_2 tpx.isList tpy.isList fun h' hz hTI hTO hi1 hi2 hsz hkeep => ?_
  refine Calls.spliced_nil ?_
  have lxi : ix.length = ks.length := by rw [← rvx.length, lx]
  have lyi : iy.length = ks.length := by rw [← rvy.length, ly]
  have ap : ZipApart (s1.heap.objs.size + 4) (s1.heap.objs.size + 2) (s1.heap.objs.size + 3) s1.heap.objs.size (s1.heap.objs.size + 1) a b := by
    constructor <;> unfold Addr at * <;> omega
  have key : ∀ h2 : Heap, (∀ (c : Addr) (o : Obj), c < s1.heap.objs.size → h'.get? c = some o → h2.get? c = some o) → ∀ x, x ∈ ps → (tupleKind (mixKind X.prog X.w)).is h2 x.1 x.2.1 := fun hh k x hx => by
    obtain ⟨o, items, n, g1, g2⟩ := tupkey_of (P := X.prog) (w := X.w) I1.hok (h4 x hx)
    exact ⟨o, items, n, k _ _ (Heap.lt_size g1) (hkeep _ _ g1), g2⟩
  refine call_dict_pairsH (knd := tupleKind (mixKind X.prog X.w)) (ps := ps) (PairArg.zip _ _ _ _ _ a b ap ix.toArray iy.toArray) (I.ok.hd hc) (by show X.A.units + 1 + 1 < cLine; omega) ⟨hz, hTI, ⟨_, _, hTO⟩, hi1, hi2, ?_, ?_⟩ ⟨by simp [h2, lxi, lyi], fun i key v g => h3 i key v (by simpa using g)⟩ ?_ (by simp [lxi, lyi]; rw [sizeLine_eq]; omega) fun h3 tk hd hkp => ?_
  · obtain ⟨o, ho, hc, n, hd⟩ := tpx.isList
    exact ⟨o, hkeep _ _ ho, hc, n, hd⟩
  · obtain ⟨o, ho, hc, n, hd⟩ := tpy.isList
    exact ⟨o, hkeep _ _ ho, hc, n, hd⟩
  · refine fun h2 kk x hx => key h2 (fun c o lc g => kk c o ?_ ?_ g) x hx
    · show c ≠ h'.objs.size
      rw [hsz]
      unfold Addr at *
      omega
    · simp only [List.mem_cons, List.not_mem_nil, or_false, not_or]
      unfold Addr at *
      refine ⟨?_, ?_, ?_, ?_⟩ <;> omega
  · have nd' : (ps.map (fun x => x.1)).Nodup := by
      rw [h5]
      exact nd
    rw [storedAllH_nil_of_nodup ps nd'] at hd
    obtain ⟨o, es, ep, g1, g2, g3, g4, g5, g6⟩ := hd
    have nn : H1 h'.objs.size = none := I1.hok.fresh (by rw [hsz]; omega)
    refine ⟨.ref h'.objs.size, _, I1.laid (t' := tk) (a := h'.objs.size) (o := .dT (ks.zip ys)) (fun c oc g => hkp c oc ?_ (hkeep c oc g)) (by rw [hsz]; omega) ⟨?_, ?_, ps, paired_imp (fun x y hh => ⟨hh.1, ?_, hh.2.2⟩) h1, o, es, ep, g1, g2, g3, g4, g6⟩, rfl, q _ nn⟩
    · have lc := Heap.lt_size g
      simp only [List.mem_cons, List.not_mem_nil, or_false, not_or]
      unfold Addr at *
      refine ⟨?_, ?_, ?_, ?_⟩ <;> omega
    · rw [List.length_zip, ly, Nat.min_self, sizeLine_eq]
      omega
    · have := I1.big
      rw [hsz]
      exact beq_false_of_ne (by unfold Addr at *; omega)
    · refine (upd_ne ?_).trans hh.2.1
      intro e
      rw [e] at hh
      rw [nn] at hh
      exact nomatch hh.2.1
end Lw

namespace Lw
open PySem PySem.Spec PyProof.Rows L2
/-! ### bundles by places: with one good more, the rest; the dict of the worths -/
def insI (n : Nat) (b : List Nat) (j : Nat) : List Nat := (List.range n).filter fun i => decide (i ∈ b) || decide (i = j)
def restI (n : Nat) (b : List Nat) : List Nat := (List.range n).filter fun i => !decide (i ∈ b)
theorem ins_in (n : Nat) (hn : n < 6) : ∀ b ∈ allI n, ∀ j < n, insI n b j ∈ allI n := by
  have := upto (P := fun n => (allI n).all fun b => (List.range n).all fun j => decide (insI n b j ∈ allI n)) 6 (by decide +kernel) n hn
  intro b hb j hj
  exact of_decide_eq_true (List.all_eq_true.mp (List.all_eq_true.mp this b hb) j (List.mem_range.mpr hj))
theorem all_len (n : Nat) (hn : n < 6) : 1 ≤ (allI n).length ∧ (allI n).length ≤ 32 := by
  have := upto (P := fun n => decide (1 ≤ (allI n).length ∧ (allI n).length ≤ 32)) 6 (by decide +kernel) n hn
  exact of_decide_eq_true this
theorem range_pw (n : Nat) : (List.range n).Pairwise (· < ·) := List.pairwise_lt_range
theorem inc_bag {ws : List Str} (h : Inc ws) {b : List Nat} (hb : b.Pairwise (· < ·)) (hi : ∀ i ∈ b, i < ws.length) : Inc (bagI ws b) := by
  unfold Inc bagI
  rw [List.pairwise_map]
  exact hb.imp_of_mem fun {i j} mi mj hij => (inc_lt h (hi i mi) (hi j mj)).mpr hij
theorem inc_nodup {l : List Str} (h : Inc l) : l.Nodup := List.Pairwise.imp (fun {a b} h e => by
  subst e
  exact List.lt_irrefl _ h) h
theorem inc_srt {l : List Str} (h : Inc l) : srt l = l := by
  rw [srt_eq]
  exact List.mergeSort_of_pairwise (List.Pairwise.imp (fun {a b} h => decide_eq_true (List.le_of_lt h)) h)
theorem bag_mem {ws : List Str} (h : Inc ws) {b : List Nat} (hi : ∀ i ∈ b, i < ws.length) {i : Nat} (hj : i < ws.length) : fI ws i ∈ bagI ws b ↔ i ∈ b := by
  constructor
  · intro m
    obtain ⟨k, hk, e⟩ := List.mem_map.mp m
    rwa [← inc_inj h (hi k hk) hj e]
  · exact fun m => List.mem_map.mpr ⟨i, m, rfl⟩
theorem rest_eq {ws : List Str} (h : Inc ws) {b : List Nat} (hi : ∀ i ∈ b, i < ws.length) : (ws.filter fun z => !decide (z ∈ bagI ws b)) = bagI ws (restI ws.length b) := by
  have e1 : ws.filter (fun z => !decide (z ∈ bagI ws b)) = ((List.range ws.length).map (fI ws)).filter (fun z => !decide (z ∈ bagI ws b)) := by
    rw [← ws_eq ws]
  rw [e1, List.filter_map]
  unfold bagI restI
  congr 1
  refine List.filter_congr fun i hm => ?_
  have := bag_mem h hi (List.mem_range.mp hm)
  simp only [Function.comp]
  rw [show decide (fI ws i ∈ List.map (fI ws) b) = decide (i ∈ b) from decide_eq_decide.mpr this]
theorem ins_eq {ws : List Str} (h : Inc ws) {b : List Nat} (hi : ∀ i ∈ b, i < ws.length) {j : Nat} (hj : j < ws.length) : sd (bagI ws b ++ [fI ws j]) = bagI ws (insI ws.length b j) := by
  have pw : (insI ws.length b j).Pairwise (· < ·) := (range_pw _).filter _
  have li : ∀ i ∈ insI ws.length b j, i < ws.length := fun i m => List.mem_range.mp (List.mem_filter.mp m).1
  have inc := inc_bag h pw li
  rw [← sd_of (ws := bagI ws b ++ [fI ws j]) (inc_nodup inc) (fun z => ?_), inc_srt inc]
  constructor
  · intro m
    obtain ⟨i, hm, rfl⟩ := List.mem_map.mp m
    obtain ⟨h1, h2⟩ := List.mem_filter.mp hm
    rw [Bool.or_eq_true, decide_eq_true_iff, decide_eq_true_iff] at h2
    rcases h2 with h2 | rfl
    · exact List.mem_append_left _ (List.mem_map.mpr ⟨i, h2, rfl⟩)
    · exact List.mem_append_right _ List.mem_cons_self
  · intro m
    rcases List.mem_append.mp m with m | m
    · obtain ⟨i, hm, rfl⟩ := List.mem_map.mp m
      exact List.mem_map.mpr ⟨i, List.mem_filter.mpr ⟨List.mem_range.mpr (hi i hm), by simp [hm]⟩, rfl⟩
    · rw [List.mem_singleton] at m
      subst m
      exact List.mem_map.mpr ⟨j, List.mem_filter.mpr ⟨List.mem_range.mpr hj, by simp⟩, rfl⟩
/-- the keys of a table's dict -/
def keyI (ws : List Str) (b : List Nat) : List L2.Key := (bagI ws b).map Sum.inr
def keysI (ws : List Str) : List (List L2.Key) := (allI ws.length).map (keyI ws)
theorem keyI_V (ws : List Str) (b : List Nat) : (keyI ws b).map kV = (bagI ws b).map V.str := by
  unfold keyI
  rw [List.map_map]
  rfl
theorem keyI_inj {ws : List Str} (h : Inc ws) {a b : List Nat} (ha : ∀ i ∈ a, i < ws.length) (hb : ∀ i ∈ b, i < ws.length) (e : keyI ws a = keyI ws b) : a = b := by
  unfold keyI at e
  exact bag_inj h ha hb ((List.map_inj_right (fun _ _ h => Sum.inr.inj h)).mp e)
theorem keysI_nodup {ws : List Str} (h : Inc ws) (hn : ws.length < 6) : (keysI ws).Nodup := by
  unfold keysI
  have h1 := all_nodup ws.length hn
  have h2 := all_in ws.length hn
  unfold List.Nodup
  rw [List.pairwise_map]
  exact List.Pairwise.imp_of_mem (fun {a b} ma mb ne e => ne (keyI_inj h (h2 a ma).2 (h2 b mb).2 e)) h1
theorem valV_zip {κ : Type} [DecidableEq κ] : ∀ {ks : List κ} {ys : List V} {i : Nat} {k : κ} {v : V}, ks.Nodup → ks[i]? = some k → ys[i]? = some v → valV (ks.zip ys) k = some v
  | [], _, _, _, _, _, h, _ => by simp at h
  | _ :: _, [], _, _, _, _, _, h => by simp at h
  | k :: ks, y :: ys, 0, _, _, _, h1, h2 => by
    simp at h1 h2
    subst h1 h2
    simp [valV]
  | k :: ks, y :: ys, i + 1, k', v, nd, h1, h2 => by
    have nd' := List.nodup_cons.mp nd
    have h1' : ks[i]? = some k' := by simpa using h1
    have ne : k ≠ k' := fun e => nd'.1 (e ▸ List.mem_of_getElem? h1')
    have := valV_zip (ks := ks) (ys := ys) nd'.2 h1' (by simpa using h2)
    unfold valV at this ⊢
    rw [List.zip_cons_cons, List.find?_cons_of_neg (by simpa using ne)]
    exact this
/-- the worth of a bundle, by its place -/
def wI (n : Nat) (zs : List Int) (b : List Nat) : Int := (0 :: zs).getD ((allI n).idxOf b) 0
def dictI (ws : List Str) (zs : List Int) : HO := .dT ((keysI ws).zip ((0 :: zs).map V.int))
theorem valI {ws : List Str} {zs : List Int} (h : Inc ws) (hn : ws.length < 6) (hz : zs.length + 1 = (allI ws.length).length) {b : List Nat} (hb : b ∈ allI ws.length) : valV ((keysI ws).zip ((0 :: zs).map V.int)) (keyI ws b) = some (.int (wI ws.length zs b)) := by
  have hi := List.idxOf_lt_length_iff.mpr hb
  refine valV_zip (i := (allI ws.length).idxOf b) (keysI_nodup h hn) ?_ ?_
  · unfold keysI
    rw [List.getElem?_map, List.getElem?_eq_getElem hi]
    simp
  · have hi2 : (allI ws.length).idxOf b < (0 :: zs).length := by
      rw [List.length_cons, hz]
      exact hi
    rw [List.getElem?_map, List.getElem?_eq_getElem hi2]
    unfold wI
    rw [List.getD_eq_getElem?_getD, List.getElem?_eq_getElem hi2]
    rfl
/-- the first place where a table falls -/
def fallI (n : Nat) (zs : List Int) (bs : List (List Nat)) : Option (List Nat × Nat) := bs.findSome? fun b => (restI n b).findSome? fun j => if wI n zs (insI n b j) < wI n zs b then some (b, j) else none
end Lw

namespace Lw
open PySem PySem.Spec PyProof.Rows L2
/-- an error of two fields is made -/
theorem mk2_at {K : PySem.W.Frag} {C : Addr} {f f2 : Str} {y z : V} {H1 : Hp} {Q : XK} (k : ∀ d, H1 d = none → Q (.ref C) (some d) (upd H1 d (.xd [(f2, z), (f, y)]))) : ([y, z] : List V).length ≤ 1000 ∧ ∀ a, H1 a = none → sp_init2 K C f f2 (.ref a :: ([y, z] ++ [])) (upd H1 a (exo a C none))
      (fun v H2 => v = .non ∧ ∃ (d : Addr) (fs : List (Str × V)), H2 a = some (exo a C (some d)) ∧ H2 d = some (exd d fs) ∧ H1 d = none ∧ Q (.ref C) (some d) (upd (del H2 a) d (.xd fs))) (fun _ _ _ => False) := by
  refine ⟨by simp, fun a na => ⟨a, y, z, rfl, upd_same, fun dx ndx ne => ⟨rfl, dx, [(f2, z), (f, y)], (upd_ne (Ne.symm ne)).trans upd_same, upd_same, ?_, ?_⟩⟩⟩
  · rw [upd_ne ne] at ndx
    exact ndx
  · rw [upd_ne ne] at ndx
    have e : upd (del (upd (upd (upd (upd H1 a (exo a C none)) dx (exd dx [(f, y)])) a (exo a C (some dx))) dx (exd dx [(f2, z), (f, y)])) a) dx (.xd [(f2, z), (f, y)]) = upd H1 dx (.xd [(f2, z), (f, y)]) := by
      funext b
      by_cases hb : b = dx
      · rw [hb, upd_same, upd_same]
      · rw [upd_ne hb, upd_ne hb]
        by_cases ha : b = a
        · subst ha
          simp [del, na]
        · simp [del, ha, upd, hb]
    rw [e]
    exact k dx ndx
end Lw

namespace Lw
open PySem PySem.Spec PyProof.Rows L2
theorem bags_key {H : Hp} {us : List V} {bs : List (List Str)} {i : Nat} {b : List Str} (h : Bags H us bs) (hb : bs[i]? = some b) : ∃ q : Addr, us[i]? = some (V.ref q) ∧ H q = some (.tup (b.map V.str)) := by
  have hi : i < us.length := by
    rw [h.len]
    exact (List.getElem?_eq_some_iff.mp hb).1
  obtain ⟨c, hc, q, e, hq⟩ := h.at (List.getElem?_eq_getElem hi)
  rw [hb] at hc
  cases hc
  exact ⟨q, by rw [List.getElem?_eq_getElem hi, e], hq⟩
section
variable {td ty : TE} {σ : L2.St} {H : Hp} {a : Addr} {kvs : List (List L2.Key × V)} {k : List L2.Key} {v : V}
/-- d[t], t a tuple that is there -/
theorem ev_dgetT {q : Addr} (h1 : Evl.Ev td σ H (.ref a)) (h2 : Evl.Ev ty σ H (.ref q)) (ha : H a = some (.dT kvs)) (hq : H q = some (.tup (k.map kV))) (hv : valV kvs k = some v) : Evl.Ev (tDGet td ty) σ H v :=
  fun H1 e Q r => h1 H1 e _ fun H2 e2 => h2 H2 (e.trans e2) _ fun H3 e3 => ⟨a, v, rfl, .inr ⟨kvs, k, q, .inl ((e.trans (e2.trans e3)) _ _ ha), rfl, (e.trans (e2.trans e3)) _ _ hq, hv.symm⟩, r H3 (e2.trans e3)⟩
/-- d[t], t a tuple made here -/
theorem ev_dgetU (h1 : Evl.Ev td σ H (.ref a)) (h2 : Evl.EvU ty σ H (k.map kV)) (ha : H a = some (.dT kvs)) (hv : valV kvs k = some v) : Evl.Ev (tDGet td ty) σ H v :=
  fun H1 e Q r => h1 H1 e _ fun H2 e2 => h2 H2 (e.trans e2) _ fun q H3 nq e3 hq => ⟨a, v, rfl, .inr ⟨kvs, k, q, .inl ((e.trans (e2.trans e3)) _ _ ha), rfl, hq, hv.symm⟩, r H3 (e2.trans e3)⟩
end
theorem fall_drop {n : Nat} {zs : List Int} {bs : List (List Nat)} {i : Nat} {b : List Nat} (h : bs[i]? = some b) : fallI n zs (bs.drop i) = match (restI n b).findSome? fun j => if wI n zs (insI n b j) < wI n zs b then some (b, j) else none with
    | some r => some r
    | none => fallI n zs (bs.drop (i + 1)) := by
  rw [List.drop_eq_getElem_cons (List.getElem?_eq_some_iff.mp h).1, (List.getElem?_eq_some_iff.mp h).2]
  unfold fallI
  rw [List.findSome?_cons]
  generalize List.findSome? _ (restI n b) = A
  cases A <;> rfl
theorem some_drop {α β : Type} {f : α → Option β} {js : List α} {i : Nat} {j : α} (h : js[i]? = some j) : (js.drop i).findSome? f = match f j with
    | some r => some r
    | none => (js.drop (i + 1)).findSome? f := by
  rw [List.drop_eq_getElem_cons (List.getElem?_eq_some_iff.mp h).1, (List.getElem?_eq_some_iff.mp h).2, List.findSome?_cons]
  split <;> simp_all
theorem rest_in {n : Nat} {b : List Nat} {i j : Nat} (h : (restI n b)[i]? = some j) : j < n := List.mem_range.mp (List.mem_filter.mp (List.mem_of_getElem? h)).1
end Lw

namespace Lw
open PySem PySem.Spec PyProof.Rows L2
open PySem.W (dataLe dataLt_int EachIs)
/-! ### sorted(xs, reverse = True) of numbers, xs[:k], sums -/
def asc (is : List Int) : List Int := is.mergeSort fun a b => decide (a ≤ b)
def dsc (is : List Int) : List Int := is.mergeSort fun a b => decide (b ≤ a)
theorem leT : dataLe true PyData.int = fun a b => decide (b ≤ a) := by
  funext a b
  show (!PySem.W.dataLt (.int a) (.int b)) = _
  rw [dataLt_int]
  by_cases h : a < b
  · rw [decide_eq_true h, decide_eq_false (by omega)]
    rfl
  · rw [decide_eq_false h, decide_eq_true (by omega)]
    rfl
theorem leF : dataLe false PyData.int = fun a b => decide (a ≤ b) := by
  funext a b
  show (!PySem.W.dataLt (.int b) (.int a)) = _
  rw [dataLt_int]
  by_cases h : b < a
  · rw [decide_eq_true h, decide_eq_false (by omega)]
    rfl
  · rw [decide_eq_false h, decide_eq_true (by omega)]
    rfl
theorem asc_pw (is : List Int) : (asc is).Pairwise fun a b => a ≤ b := by
  refine (List.pairwise_mergeSort (le := fun a b : Int => decide (a ≤ b)) (fun a b c h1 h2 => ?_) (fun a b => ?_) is).imp fun {a b} h => of_decide_eq_true h
  · rw [decide_eq_true_iff] at h1 h2 ⊢
    omega
  · rw [Bool.or_eq_true, decide_eq_true_iff, decide_eq_true_iff]
    omega
theorem dsc_pw (is : List Int) : (dsc is).Pairwise fun a b => b ≤ a := by
  refine (List.pairwise_mergeSort (le := fun a b : Int => decide (b ≤ a)) (fun a b c h1 h2 => ?_) (fun a b => ?_) is).imp fun {a b} h => of_decide_eq_true h
  · rw [decide_eq_true_iff] at h1 h2 ⊢
    omega
  · rw [Bool.or_eq_true, decide_eq_true_iff, decide_eq_true_iff]
    omega
theorem dsc_eq (is : List Int) : dsc is = (asc is).reverse := by
  refine List.Perm.eq_of_pairwise (le := fun a b : Int => b ≤ a) (fun a b _ _ h1 h2 => by omega) (dsc_pw is) ?_ ?_
  · rw [List.pairwise_reverse]
    exact asc_pw is
  · exact (List.mergeSort_perm is _).trans ((List.mergeSort_perm is _).symm.trans (List.reverse_perm _).symm)
def rSortRevI (K : PySem.W.Frag) : List V → List V → Hp → VK → Prop := fun vs zs H Q => ∃ (a : Addr) (is : List Int), vs = [.ref a] ∧ zs = [.bl true] ∧ SqL K H a (is.map V.int) ∧ ∀ p, H p = none → Q (.ref p) (upd H p (.lst ((dsc is).map V.int)))
theorem alike_ints : ∀ (is : List Int), PySem.W.AllAlike (is.map PyData.int) ∧ PySem.W.Sortable (is.map PyData.int) := fun is => ⟨PySem.W.AllAlike.of fun _ _ => rfl, PySem.W.Sortable.others fun _ => ⟨(by intro h; cases h), (by intro _ h; cases h)⟩⟩
theorem cr_sortRevI {X : Cx} (hu : X.A.units + 64 < cLine) : CallRK X (.builtin "sorted") ["reverse"] (rSortRevI X.K) := by
  intro pins s σ H vs zs us ws Q I r rz h
  obtain ⟨a, is, rfl, rfl, hq, q⟩ := h
  obtain ⟨u, rfl, rx⟩ := vals1 r
  obtain ⟨u2, rfl, ry⟩ := vals1 rz
  cases rx
  cases ry
  obtain ⟨its, rv, hl, hz⟩ := I.list hq
  have hn := rv.length
  rw [List.length_map] at hz hn
  have e := each_rel rv
  refine PySem.W.sorted_rev_data (b := true) (bs := is) (enc := PyData.int) hl.isList e (each_and e fun b hb v hv => Dp.reads I _ _ _ (.int b) hv) (alike_ints is).1 (alike_ints is).2 (by omega) (fun b hb => by simp [PyData.depth]; omega) fun out ho he => ?_
  rw [leT] at he
  obtain ⟨ep, hat⟩ := sortedAll_at s.heap its out.toArray
  refine ⟨.ref _, upd H (s.heap.objs.size + 1) (.lst ((dsc is).map V.int)), I.laid (t' := s.toks) (fun _ _ => sortedAll_old) (Nat.le_succ _) ⟨?_, out, ep, rel_each he, hat⟩, rfl, q _ (I.hok.fresh (Nat.le_succ _))⟩
  rw [List.length_map]
  unfold dsc
  rw [List.length_mergeSort]
  exact hz
section
open Evl
variable {K : PySem.W.Frag} {σ : L2.St} {H : Hp} {te th : TE}
theorem el_sortrev {is : List Int} (h : EvL te σ H (is.map V.int)) : EvL (tCKw (rSortRevI K) (tCons te tNil) (tCons (tC (.bl true)) tNil)) σ H ((dsc is).map V.int) := fun H1 e Q k =>
  h H1 e _ fun a H2 na e2 ha => ⟨a, is, rfl, rfl, Evl.sq_of ha, fun r nr => k r _ (fresh_back e2 nr) (e2.trans (Ex.new nr)) upd_same⟩
theorem el_take {xs : List V} {m : Nat} (h : EvL te σ H xs) (hm : Ev th σ H (.int (m : Int))) : EvL (tSl (rSlL K) te tNoPart (tPart th)) σ H (xs.take m) := fun H1 e Q k =>
  h H1 e _ fun a H2 na e2 ha => hm H2 (e.trans e2) _ fun H3 e3 => ⟨m, rfl, a, xs, rfl, Evl.sq_of (e3 _ _ ha), fun r nr => by
    have hc : cutV xs none (some (m : Int)) = xs.take m := by
      unfold cutV
      simp only [HT.sIx, List.drop_zero, Nat.sub_zero]
      rw [if_neg (by omega), Int.toNat_natCast]
      exact List.take_eq_take_iff.mpr (by omega)
    rw [hc]
    exact k r _ (fresh_back (e2.trans e3) nr) ((e2.trans e3).trans (Ex.new nr)) upd_same⟩
end
end Lw

namespace Lw
open PySem PySem.Spec PyProof.Rows L2
/-! ### classmethods, by positions or by keywords, inside of a try too; a class that a name of the def's own holds -/
section
variable {X : Cx} {CX : CXT} {k : Nat} {C p g : Addr} {mc : Value} {fd : FuncData} {ps ks : List Str} {sp : Sp} {o e : Expr} {es : List Expr} {kws : List Keyword} {m : Str} {pos apos : Pos} {ta : TE} {t tk : TA} {pl : Sem Bool} {gg : List Value → List Value → List Value} {gV : List V → List V → List V}
theorem run_cmS {E : XK} {q : Addr} {pins : List (Addr × Obj)} {σ : L2.St} {H : Hp} {s : Shared} {Q : VK} {us zs : List Value} {kw : List (Str × Value)} {vs : List V} (F : FnOk X.prog X.w X.K X.mg X.base CX k g fd ps sp) (hr : Room k X.A) (hx : PassesAt CX X σ E)
    (I : L2.Inv X ((q, PySem.W.methodObj (.ref g) (.ref C)) :: pins) σ H s) (hb : BindsTo s fd ⟨.ref C :: us, kw⟩ (ps.zip zs)) (r : Vals vs zs) (h : sp vs H Q E) : wpAny (model X.prog X.w) X.A (call (.ref q) us kw) (EP X pins σ Q) X.xe s := by
  refine thn (Q := EP X ((q, PySem.W.methodObj (.ref g) (.ref C)) :: pins) σ Q) (wpAny_call (PySem.W.method_call (ClX.pin_at I) (codeAny_mono (F.run X.A X.stack s H ⟨.ref C :: us, kw⟩ zs vs Q E hr I.env0 hb r h) fun r s' hq => ?_))) fun _ _ y => ClX.unpinE y
  cases r with
  | error er => exact hx _ _ _ er s' I hq
  | ok fl =>
    cases fl with
    | ret u => exact I.after hq
    | next => cases hq
    | brk => cases hq
    | cont => cases hq
/-- what C.m(e, ..) says -/
def tCMS (C : Addr) (sp : Sp) (E : L2.St → XK) (ta : TE) (t : TA) : TE := fun σ H Q => ta σ H fun x H1 => x = .ref C ∧ t σ H1 fun vs H2 => sp (.ref C :: vs) H2 Q (E σ)
theorem pe_cmS {E : L2.St → XK} (he : PE X o ta) (r : ClX.CRead X.K C mc) (c : ClX.CMet X.K C mc m p g) (F : FnOk X.prog X.w X.K X.mg X.base CX k g fd ps sp) (hr : Room k X.A) (hb : Binds X.K fd ps []) (hx : ∀ σ, PassesAt CX X σ (E σ)) (ha : PA X (e :: es) t)
    (hst : starEach (e :: es) X.env = (false, eval e X.env) :: starEach es X.env := by rfl) (hpl : ((backTo pos (starEach es X.env)).any fun x => x.1) = false := by rfl)
    (ht : eval (.Call (.Attribute o m apos) (e :: es) [] pos) X.env = (do let ov ← eval o X.env; standAt apos.atName; let (f, first) ← holding [ov] (getMethod ov m pl); callWith pos f first (backTo pos (starEach (e :: es) X.env)) (backToKw pos (keywordEach [] X.env))) := by rfl) :
    PE X (.Call (.Attribute o m apos) (e :: es) [] pos) (tCMS C sp E ta t) := by
  constructor
  intro pins s σ H Q I h
  refine PySem.W.methodCall_KW (pl := pl) (thn (he.run pins s σ H _ I h) fun u s1 ⟨x, H1, I1, rx, ex, q⟩ => ?_) ht
  subst ex
  cases rx
  refine ClX.getmethcm_ok I1 r c fun s2 I2 => ClX.callwith_cm I2 (ClX.base_none I1 (Nat.le_refl _)) c.fi (thn (ha.run pos _ s2 σ H1 _ I2 q) fun us s3 ⟨vs, H2, I3, rv, q2⟩ => ⟨⟨ClX.pin_at I3, I3.kIn⟩, ?_⟩) hst hpl
  have hl : (Value.ref C :: us).length = ps.length := by
    have := F.len _ _ _ _ q2
    rw [← this, List.length_cons, List.length_cons, rv.length]
  have b := hb s3 (Value.ref C :: us) I3.kIn (by rw [List.append_nil]; exact hl)
  rw [List.append_nil] at b
  exact run_cmS (vs := V.ref C :: vs) F hr (hx σ) I3 b (.cons rfl rv) q2
/-- what C.m(k = v, ..) says -/
def tCMK (C : Addr) (sp : Sp) (gV : List V → List V → List V) (E : L2.St → XK) (ta : TE) (tk : TA) : TE := fun σ H Q => ta σ H fun x H1 => x = .ref C ∧ tk σ H1 fun zs H2 => sp (gV [.ref C] zs) H2 Q (E σ)
theorem pe_cmK {E : L2.St → XK} (he : PE X o ta) (r : ClX.CRead X.K C mc) (c : ClX.CMet X.K C mc m p g) (F : FnOk X.prog X.w X.K X.mg X.base CX k g fd ps sp) (hr : Room k X.A) (hb : KBinds X.K fd ps ks gg gV) (hx : ∀ σ, PassesAt CX X σ (E σ)) (hkw : PK X kws tk)
    (h1 : (backToKw pos (keywordEach kws X.env)).all (·.1.isSome) = true := by rfl) (h2 : (backToKw pos (keywordEach kws X.env)).filterMap (·.1) = ks := by rfl)
    (h5 : ((backTo pos (starEach [] X.env)).any (·.1) || (backToKw pos (keywordEach kws X.env)).any (·.1.isNone)) = false := by rfl)
    (ht : eval (.Call (.Attribute o m apos) [] kws pos) X.env = (do let ov ← eval o X.env; standAt apos.atName; let (f, first) ← holding [ov] (getMethod ov m pl); callWith pos f first (backTo pos (starEach [] X.env)) (backToKw pos (keywordEach kws X.env))) := by rfl) :
    PE X (.Call (.Attribute o m apos) [] kws pos) (tCMK C sp gV E ta tk) := by
  constructor
  intro pins s σ H Q I h
  refine PySem.W.methodCall_KW (pl := pl) (thn (he.run pins s σ H _ I h) fun u s1 ⟨x, H1, I1, rx, ex, q⟩ => ?_) ht
  subst ex
  cases rx
  refine ClX.getmethcm_ok I1 r c fun s2 I2 => ?_
  refine PySem.W.callWith_of h5 (PySem.W.keeps_M (K := X.K) (self := .ref C) c.fi) (PyProof.Rows.evalArgs_kw2_nil h1 (thn (hkw.run pos _ s2 σ H1 _ I2 q) fun ws s3 ⟨zs, H2, I3, rz, q2⟩ => ⟨⟨ClX.pin_at I3, I3.kIn⟩, ?_⟩))
  rw [h2]
  have rv : Vals [V.ref C] [Value.ref C] := .cons rfl .nil
  have r2 := hb.rel rv rz
  have hl : (gg [Value.ref C] ws).length = ps.length := by
    rw [← F.len _ _ _ _ q2, r2.length]
  exact run_cmS (us := []) F hr (hx σ) I3 (hb.to s3 [Value.ref C] ws I3.kIn hl) r2 q2
/-- what x(e, ..) says, x a name of the def's own that holds a class -/
def tMakeV (C : Addr) (sp : Sp) (E : XK) (tv : TE) (t : TA) : TE := fun σ H Q => tv σ H fun v H1 => v = .ref C ∧ tMake C sp [] E t σ H1 Q
theorem pe_makeV {f : Addr} {x : Str} {p : Pos} {tv : TE} {E : XK} (hv : PE X (.Name x p) tv) (M : Mk X.K C f) (F : FnOk X.prog X.w X.K X.mg X.base CX k f fd ps sp) (hr : Room (k + 1) X.A) (hb : Binds X.K fd ps []) (hx : Passes CX X E) (ha : PA X (e :: es) t)
    (he : starEach (e :: es) X.env = (false, eval e X.env) :: starEach es X.env := by rfl) (hpl : ((backTo pos (starEach es X.env)).any fun x => x.1) = false := by rfl) :
    PE X (.Call (.Name x p) (e :: es) [] pos) (tMakeV C sp E tv t) := by
  constructor
  intro pins s σ H Q I h
  refine wpAny_Call_Name_kw (thn (hv.run pins s σ H _ I h) fun u s0 ⟨v, H0, I0, rv, ev, q⟩ => ?_)
  subst ev
  cases rv
  refine PySem.W.callWith_K I.ok.mod.kin M.kp (thn (ha.run pos pins s0 σ H0 _ I0 q) fun us s1 ⟨vs, H1, I1, r, q1⟩ => ⟨I1.kIn, ?_⟩) he hpl
  exact run_make M F hr hb .nil hx I1 r q1
end
end Lw

namespace Lw
open PySem PySem.Spec PyProof.Rows L2
/-! ### the sum of the k greatest grows with the list -/
def insD (x : Int) : List Int → List Int
  | [] => [x]
  | y :: s => if x ≤ y then y :: insD x s else x :: y :: s
theorem insD_perm (x : Int) : ∀ s, (insD x s).Perm (x :: s)
  | [] => .refl _
  | y :: s => by
    unfold insD
    split
    · exact ((insD_perm x s).cons y).trans (.swap x y s)
    · exact .refl _
theorem insD_pw (x : Int) : ∀ s : List Int, s.Pairwise (fun a b => b ≤ a) → (insD x s).Pairwise fun a b => b ≤ a
  | [], _ => List.pairwise_singleton _ _
  | y :: s, h => by
    obtain ⟨h1, h2⟩ := List.pairwise_cons.mp h
    unfold insD
    split
    · rename_i hxy
      refine List.pairwise_cons.mpr ⟨fun z hz => ?_, insD_pw x s h2⟩
      rcases List.mem_cons.mp ((insD_perm x s).mem_iff.mp hz) with rfl | hz
      · exact hxy
      · exact h1 z hz
    · rename_i hxy
      refine List.pairwise_cons.mpr ⟨fun z hz => ?_, h⟩
      rcases List.mem_cons.mp hz with rfl | hz
      · omega
      · have := h1 z hz
        omega
theorem dsc_perm {a b : List Int} (h : a.Perm b) : dsc a = dsc b :=
  List.Perm.eq_of_pairwise (le := fun a b : Int => b ≤ a) (fun a b _ _ h1 h2 => by omega) (dsc_pw a) (dsc_pw b) ((List.mergeSort_perm a _).trans (h.trans (List.mergeSort_perm b _).symm))
theorem dsc_cons (x : Int) (l : List Int) : dsc (x :: l) = insD x (dsc l) :=
  List.Perm.eq_of_pairwise (le := fun a b : Int => b ≤ a) (fun a b _ _ h1 h2 => by omega) (dsc_pw _) (insD_pw x _ (dsc_pw l)) ((List.mergeSort_perm _ _).trans (((List.mergeSort_perm l _).symm.cons x).trans (insD_perm x _).symm))
theorem take_le {x : Int} (hx : 0 ≤ x) : ∀ (m : Nat) (l : List Int), (∀ z ∈ l, z ≤ x) → (l.take (m + 1)).sum ≤ x + (l.take m).sum
  | _, [], _ => by simpa using hx
  | 0, y :: s, h => by
    have := h y List.mem_cons_self
    simp
    exact this
  | m + 1, y :: s, h => by
    have := take_le hx m s fun z hz => h z (List.mem_cons_of_mem _ hz)
    rw [List.take_succ_cons, List.take_succ_cons, List.sum_cons, List.sum_cons]
    omega
theorem insD_take {x : Int} (hx : 0 ≤ x) : ∀ (m : Nat) (s : List Int), s.Pairwise (fun a b => b ≤ a) → (s.take m).sum ≤ ((insD x s).take m).sum
  | 0, s, _ => by simp
  | m + 1, [], _ => by
    unfold insD
    simpa using hx
  | m + 1, y :: s, h => by
    obtain ⟨h1, h2⟩ := List.pairwise_cons.mp h
    unfold insD
    split
    · rw [List.take_succ_cons, List.take_succ_cons, List.sum_cons, List.sum_cons]
      have := insD_take hx m s h2
      omega
    · rename_i hxy
      rw [List.take_succ_cons (as := y :: s) (a := x), List.sum_cons]
      refine take_le hx m (y :: s) fun z hz => ?_
      rcases List.mem_cons.mp hz with rfl | hz
      · omega
      · have := h1 z hz
        omega
theorem dsc_take {x : Int} (hx : 0 ≤ x) (m : Nat) (l : List Int) : ((dsc l).take m).sum ≤ ((dsc (x :: l)).take m).sum := by
  rw [dsc_cons]
  exact insD_take hx m _ (dsc_pw l)
theorem ins_perm (n : Nat) (hn : n < 6) : ∀ b ∈ allI n, ∀ j ∈ restI n b, (insI n b j).Perm (j :: b) := by
  have := upto (P := fun n => (allI n).all fun b => (restI n b).all fun j => (insI n b j).isPerm (j :: b)) 6 (by decide +kernel) n hn
  intro b hb j hj
  exact List.isPerm_iff.mp (List.all_eq_true.mp (List.all_eq_true.mp this b hb) j hj)
theorem all_head (n : Nat) (hn : n < 6) : allI n = [] :: (allI n).drop 1 := by
  have := upto (P := fun n => decide (allI n = [] :: (allI n).drop 1)) 6 (by decide +kernel) n hn
  exact of_decide_eq_true this
end Lw

namespace Lw
open PySem PySem.Spec PyProof.Rows L2
theorem erc2_mk {P : Program} {w : World} {K : PySem.W.Frag} {hh : Heap} {mg : Str → Option Value} (X : K.In hh) (G : hh.Ns mainGlobals mg) {c f f2 qn : Str} (st : Stmt)
    (ok : ∀ {base : Heap} {fI : Addr} {fd : FuncData} {C : Addr}, Fun K "__init__" qn st fI fd → OexC K C → PySem.W.findIn K (.ref C) f = some none → PySem.W.findIn K (.ref C) f2 = some none → FnOk P w K mg base CX0 1 fI fd ["self", f, f2] (sp_init2 K C f f2))
    (bi : ∀ {fI : Addr} {fd : FuncData}, Fun K "__init__" qn st fI fd → Binds K fd ["self", f, f2] [])
    {C I N E : Addr} {nm q : Str} {bs sub : List Value} {sn : List Str} {ab : Bool} {col : Option Bool} {dd : Option Addr} {m0 m1 m2 m3 m5 : Option Value} {od an : Option Addr} {sl : Array (Option Value)} {oc kV dc pm cd ct : Value}
    (aC : PySem.W.nsIn K mainGlobals c = some (some (.ref C)))
    (xL : K.lookup C = some (excClassObj nm q C N bs (.ref E :: [.type "ValueError", .type "Exception", .type "BaseException", .type "object"]) true sn sub ab col dd m0 m1 m2 m3 m5 "ValueError.__new__"))
    (sa : PySem.W.findIn K (.ref C) "__setattr__" = some (some (.builtin "object.__setattr__"))) (ga : PySem.W.findIn K (.ref C) "__getattribute__" = some (some (.builtin "BaseException.__getattribute__"))) (gg : PySem.W.findIn K (.ref C) "__getattr__" = some none) (nb : PySem.W.findIn K (.ref C) f = some none) (nb2 : PySem.W.findIn K (.ref C) f2 = some none)
    (iC : PySem.W.findIn K (.ref C) "__init__" = some (some (.ref I))) (tI : PySem.W.typeIn K (.ref I) = some (.type "function")) (kC : PySem.W.keepIn K (.ref C) = true) (eC : PySem.W.subIn K (.ref C) (.type "BaseException") = some true) (tC : PySem.W.typeIn K (.ref C) = some (.type "type")) (hC : PySem.W.hasDictIn K C = true)
    (cA : PySem.W.findIn K (.ref C) "__class__" = some (some (.builtin "object.__class__"))) (mo : PySem.W.mroIn K C (.type "object") = some true)
    (lI : K.lookup I = some ⟨oc, od, .func (PySem.W.fnOf "__init__" qn (defArgs st) (defBody st) (defScope st) .none kV dc pm an cd ct), sl⟩) (dI : PySem.W.codeIn K cd qn = true) (kI : PySem.W.keepIn K (.ref I) = true)
    (gsn : PySem.W.specialIn K (.builtin "object.__class__") "__get__" = some (some (.builtin "getset_descriptor.__get__"))) (gtk : PySem.W.takesIn K (.builtin "object.__class__") = some true) :
    ∀ base : Heap, ErC2 P w K mg base c f f2 C I (PySem.W.fnOf "__init__" qn (defArgs st) (defBody st) (defScope st) .none kV dc pm an cd ct) := fun base => by
  have O : OexC K C := ⟨⟨_, _, _, _, _, _, _, _, _, _, _, _, _, _, _, xL, by first | rfl | decide +kernel⟩, sa, eC, tC, kC⟩
  have FI := fun_mk (st := st) lI dI kI
  exact ⟨O, ⟨ga, gg, eC, hC⟩, ⟨by unfold PySem.W.clsIn; rw [xL] <;> rfl, ga, ⟨_, gg⟩, eC, cA, gsn, gtk, mo⟩, iC, tI, nb, nb2, PySem.W.mg_of X G aC, ok FI O nb nb2, bi FI⟩
end Lw

namespace Lw
open PySem PySem.Spec PyProof.Rows L2
def topS (i : Nat) : Stmt := PySem.Challenge.pw_bundlekinds_k22_plain_builders.main.body.getD i (.Pass ⟨0, 0, 0, 0⟩)
abbrev s_law_draw : Stmt := topS 39
abbrev n_law_draw : List Str := ["_law_state", "_law_size", "_law_digit", "_law_cell", "_law_one"]
theorem sc_law_draw : FnScope n_law_draw ["_law_state", "_law_size"] (defScope s_law_draw) := ⟨rfl, rfl, rfl, by decide +kernel, rfl, by decide +kernel, by decide +kernel⟩
section
variable {P : Program} {w : World} {K : PySem.W.Frag} {mg : Str → Option Value} {base : Heap}
theorem ok_drawW {f : Addr} {fd : FuncData} {k : Nat} (F : Fun K "_law_draw" "_law_draw" s_law_draw f fd) (m_int : mg "int" = none) (m_len : mg "len" = none) : FnOk P w K mg base CX0 (k + 1) f fd ["_law_state", "_law_size"] sp_drawW := by
  refine F.ok sc_law_draw (fun vs H Q E h => ?_) (fun cdv A outer s H vs Q E hr h => ?_)
  · obtain ⟨st, size, n, rfl, _⟩ := h
    rfl
  · obtain ⟨st, size, n, rfl, ⟨q, r, bs, cs, c, D, hb, hcs, hc0, hcn⟩, hn, hs0, hs1, hQ⟩ := h
    refine ⟨_, (pss_cons (ps_augS (pv 0) pe_int pget_list pe_int ip_add set_list)
  (Evl.pss_cut (ps_while PassesOwn.never (PW.pt (pw_and (pt_cmpR (op_neD hr.units) (pe_ix ix_list (pv 0) pe_int (fun _ _ => rfl)) (pe_lst pa_nil) (nomark _)) (pw_and1 (pt_cmpR op_eq (pe_ix ix_list (pe_ix ix_list (pv 0) pe_int (fun _ _ => rfl)) pe_int (fun _ _ => rfl)) pe_int (nomark _)))))
   (pss_one (ps_asg (pe_slice sl_list (pe_ix ix_list (pv 0) pe_int (fun _ _ => rfl)) (po_some pe_int) po_none) (pg_sub (pv 0) pe_int set_list))))
  (pss_cons (ps_if (pt_cmpR (op_neD hr.units) (pe_ix ix_list (pv 0) pe_int (fun _ _ => rfl)) (pe_lst pa_nil) (nomark _))
   (pss_cons (ps_set (i := 2) sc_law_draw.nd rfl (by first | exact .inl rfl | exact .inr rfl) (pe_op op_mod (pe_callTy call_int1 (by rfl) m_int (by decide +kernel) (pa_cons (pe_ix ix_list (pe_ix ix_list (pv 0) pe_int (fun _ _ => rfl)) pe_int (fun _ _ => rfl)) pa_nil)) (pv 1)))
  (pss_cons (ps_asg (pe_op op_fdivW (pe_ix ix_list (pe_ix ix_list (pv 0) pe_int (fun _ _ => rfl)) pe_int (fun _ _ => rfl)) (pv 1)) (pg_sub (pe_ix ix_list (pv 0) pe_int (fun _ _ => rfl)) pe_int set_list))
  (pss_one (ps_ret (pv 2)))))
   pss_nil)
  (pss_cons (ps_set (i := 3) sc_law_draw.nd rfl (by first | exact .inl rfl | exact .inr rfl) (pe_op op_mod (pe_callTy call_int1 (by rfl) m_int (by decide +kernel) (pa_cons (pe_ix ix_list (pe_ix ix_list (pv 0) pe_int (fun _ _ => rfl)) (pe_op op_mod (pe_callTy call_int1 (by rfl) m_int (by decide +kernel) (pa_cons (pe_ix ix_list (pv 0) pe_int (fun _ _ => rfl)) pa_nil)) (pe_callB call_len_seq (by rfl) m_len PySem.boot_len (pa_cons (pe_ix ix_list (pv 0) pe_int (fun _ _ => rfl)) pa_nil))) (fun _ _ => rfl)) pa_nil)) pe_int))
  (pss_cons (ps_set (i := 4) sc_law_draw.nd rfl (by first | exact .inl rfl | exact .inr rfl) (pe_op op_mod (pe_callTy call_int1 (by rfl) m_int (by decide +kernel) (pa_cons (pe_op op_pow (pe_op op_add (pe_op op_add (pe_op op_mul (pv 3) pe_int) (pe_op op_mul (pe_ix ix_list (pv 0) pe_int (fun _ _ => rfl)) pe_int)) pe_int) pe_int) pa_nil)) pe_int))
  (pss_one (ps_ret (pe_op op_mod (pe_op op_mod (pe_callTy call_int1 (by rfl) m_int (by decide +kernel) (pa_cons (pe_op op_pow (pe_op op_add (pe_op op_add (pe_op op_mul (pv 4) pe_int) (pe_op op_mul (pe_ix ix_list (pv 0) pe_int (fun _ _ => rfl)) pe_int)) pe_int) pe_int) pa_nil)) pe_int) (pv 1))))))))), ?_⟩
    refine ⟨.ref st, rfl, st, _, 2, .int c, rfl, rfl, .inl (.inl D.st'), rfl, c, 1, rfl, rfl, st, _, 2, 2, rfl, rfl, D.st', rfl, ?_⟩
    refine ⟨fun σ' H' => ∃ q' bs', σ' = L2.start n_law_draw [.ref st, .int size] ∧ DX H' st q' r bs' cs (c + 1) ∧ (∀ b ∈ bs', 0 ≤ b) ∧ Kp st H H', ?_, ?_⟩
    · refine ⟨fun m σ' H' => ∃ q' bs', m = bs'.length ∧ σ' = L2.start n_law_draw [.ref st, .int size] ∧ DX H' st q' r bs' cs (c + 1) ∧ (∀ b ∈ bs', 0 ≤ b) ∧ Kp st H H', ⟨bs.length, q, bs, rfl, rfl, D.count, hb, D.countK⟩, ?_⟩
      rintro m σ' H' ⟨q', bs', rfl, rfl, D', hb', kp⟩
      refine ⟨.ref st, rfl, st, _, 0, .ref q', rfl, rfl, .inl (.inl D'.st'), rfl, Nat.zero_le _, fun p np => ?_⟩
      have D2 : DX (upd H' p (.lst [])) st q' r bs' cs (c + 1) := D'.new np
      have kp2 : Kp st H (upd H' p (.lst [])) := kp.trans (D'.newK np)
      refine ⟨_, _, dp_ints (.inl (.inl D2.q')), dp_empty (.inl (.inl upd_same)), sh_ints _, sh_empty, _, rfl, ?_⟩
      rw [eqv_nil_map]
      cases bs' with
      | nil => exact ⟨q', [], rfl, D2, hb', kp2⟩
      | cons b bs'' =>
        refine ⟨.ref st, rfl, st, _, 0, .ref q', rfl, rfl, .inl (.inl D2.st'), rfl, q', _, 0, .int b, rfl, rfl, .inl (.inl D2.q'), atI_nat (j := 0) rfl, rfl, _, rfl, ite2 (fun hz => ?_) (fun _ => ⟨q', b :: bs'', rfl, D2, hb', kp2⟩)⟩
        refine ⟨_, fun σ2 H2 h => ⟨bs''.length, Nat.lt_succ_self _, h⟩, ?_⟩
        refine ⟨.ref st, rfl, st, _, 0, .ref q', rfl, rfl, .inl (.inl D2.st'), rfl, 1, rfl, q', _, rfl, .inl (.inl D2.q'), fun t nt => ?_⟩
        have ec : cutV ((b :: bs'').map V.int) (some 1) none = bs''.map V.int := by
          unfold cutV
          rw [show HT.sIx ((b :: bs'').map V.int).length 0 (some 1) = 1 from by
            rw [show (1 : Int) = ((1 : Nat) : Int) from rfl, HT.sIx_nat, List.length_map, List.length_cons]
            omega, HT.sIx_none]
          show List.take (((b :: bs'').map V.int).length - 1) (bs''.map V.int) = _
          exact List.take_of_length_le (by simp)
        rw [ec]
        have D3 := D2.new (o := .lst (bs''.map V.int)) nt
        refine ⟨.ref st, rfl, st, _, 0, 0, rfl, rfl, D3.st', rfl, ?_⟩
        exact ⟨t, bs'', rfl, rfl, D2.swap nt, fun x hx => hb' x (List.mem_cons_of_mem _ hx), kp2.trans (D2.swapK nt)⟩
    · rintro σ' H' ⟨q', bs', rfl, D', hb', kp⟩
      refine ⟨.ref st, rfl, st, _, 0, .ref q', rfl, rfl, .inl (.inl D'.st'), rfl, Nat.zero_le _, fun p np => ?_⟩
      have D2 : DX (upd H' p (.lst [])) st q' r bs' cs (c + 1) := D'.new np
      have kp2 : Kp st H (upd H' p (.lst [])) := kp.trans (D'.newK np)
      refine ⟨_, _, dp_ints (.inl (.inl D2.q')), dp_empty (.inl (.inl upd_same)), sh_ints _, sh_empty, _, rfl, ?_⟩
      rw [eqv_nil_map]
      cases bs' with
      | cons b bs'' =>
        refine ⟨.ref st, rfl, st, _, 0, .ref q', rfl, rfl, .inl (.inl D2.st'), rfl, q', _, 0, .int b, rfl, rfl, .inl (.inl D2.q'), atI_nat (j := 0) rfl, .inl ⟨b, rfl, ?_⟩⟩
        refine ⟨.int size, rfl, b, size, rfl, rfl, hs0, ?_⟩
        refine ⟨.ref st, rfl, st, _, 0, .ref q', rfl, rfl, .inl (.inl D2.st'), rfl, q', _, 0, .int b, rfl, rfl, .inl (.inl D2.q'), atI_nat (j := 0) rfl, .int size, rfl, b, size, rfl, rfl, wide20 hs0 hs1, ?_⟩
        refine ⟨.ref st, rfl, st, _, 0, .ref q', rfl, rfl, .inl (.inl D2.st'), rfl, q', _, 0, 0, rfl, rfl, D2.q', Evl.ixN_nat (j := 0) (by simp), ?_⟩
        refine ⟨.int (b % size), rfl, hQ (b % size) _ (Int.emod_nonneg _ (by omega)) (Int.emod_lt_of_pos _ hs0) ⟨q', r, (b / size) :: bs'', cs, c + 1, D2.own (ds := (b / size) :: bs''), ?_, hcs, by omega, by omega⟩ (kp2.trans (D2.ownK (ds := (b / size) :: bs'')))⟩
        intro x hx
        rcases List.mem_cons.mp hx with rfl | hx
        · exact Int.ediv_nonneg (hb' b List.mem_cons_self) (by omega)
        · exact hb' x (List.mem_cons_of_mem _ hx)
      | nil =>
        have hl : 0 < cs.length := List.length_pos_iff.mpr hcs
        have hi0 : 0 ≤ (c + 1) % (cs.length : Int) := Int.emod_nonneg _ (by omega)
        have hi1 : (c + 1) % (cs.length : Int) < cs.length := Int.emod_lt_of_pos _ (by omega)
        obtain ⟨j, hj⟩ : ∃ j : Nat, (c + 1) % (cs.length : Int) = (j : Int) := ⟨((c + 1) % (cs.length : Int)).toNat, by omega⟩
        have hjl : j < cs.length := by omega
        have hat : atI (cs.map V.int) ((c + 1) % ((cs.map V.int).length : Int)) = some (.int cs[j]) := by
          rw [List.length_map, hj]
          exact atI_nat (by rw [List.getElem?_map, List.getElem?_eq_getElem hjl]; rfl)
        refine ⟨.ref st, rfl, st, _, 1, .ref r, rfl, rfl, .inl (.inl D2.st'), rfl, .ref st, rfl, st, _, 2, .int (c + 1), rfl, rfl, .inl (.inl D2.st'), rfl, .inl ⟨c + 1, rfl, ?_⟩⟩
        refine ⟨.ref st, rfl, st, _, 1, .ref r, rfl, rfl, .inl (.inl D2.st'), rfl, r, _, rfl, .inl (.inl (.inl D2.r')), c + 1, _, rfl, rfl, ?_, ?_⟩
        · show (0 : Int) < ((cs.map V.int).length : Int)
          rw [List.length_map]
          omega
        refine ⟨r, _, _, .int cs[j], rfl, rfl, .inl (.inl D2.r'), hat, .inl ⟨cs[j], rfl, cs[j], 2147483647, rfl, rfl, (by omega : (0 : Int) < 2147483647), ?_⟩⟩
        have hm0 : 0 ≤ cs[j] % 2147483647 := Int.emod_nonneg _ (by omega)
        have hm1 : cs[j] % 2147483647 < 2147483647 := Int.emod_lt_of_pos _ (by omega)
        dsimp only
        generalize cs[j] % 2147483647 = m at hm0 hm1
        have hw1 : -(2 ^ 64 : Int) < 48271 ∧ (48271 : Int) < 2 ^ 64 := by decide
        have hw2 : -(2 ^ 64 : Int) < 69621 ∧ (69621 : Int) < 2 ^ 64 := by decide
        have hw3 : -(2 ^ 64 : Int) < 16807 ∧ (16807 : Int) < 2 ^ 64 := by decide
        have hw4 : -(2 ^ 64 : Int) < 40692 ∧ (40692 : Int) < 2 ^ 64 := by decide
        refine ⟨.int m, rfl, m, 48271, rfl, rfl, .inr hw1, ?_⟩
        refine ⟨.ref st, rfl, st, _, 2, .int (c + 1), rfl, rfl, .inl (.inl D2.st'), rfl, c + 1, 69621, rfl, rfl, .inr hw2, m * 48271, (c + 1) * 69621, rfl, rfl, m * 48271 + (c + 1) * 69621, 7, rfl, rfl, ?_⟩
        refine ⟨m * 48271 + (c + 1) * 69621 + 7, 5, rfl, rfl, ⟨by omega, by omega, ?_⟩, .inl ⟨_, rfl, _, 2147483647, rfl, rfl, (by omega : (0 : Int) < 2147483647), ?_⟩⟩
        · have : (2 : Nat) ^ 64 = 18446744073709551616 := by decide
          omega
        have hk0 : 0 ≤ (m * 48271 + (c + 1) * 69621 + 7) ^ (5 : Int).toNat % 2147483647 := Int.emod_nonneg _ (by omega)
        have hk1 : (m * 48271 + (c + 1) * 69621 + 7) ^ (5 : Int).toNat % 2147483647 < 2147483647 := Int.emod_lt_of_pos _ (by omega)
        dsimp only
        generalize (m * 48271 + (c + 1) * 69621 + 7) ^ (5 : Int).toNat % 2147483647 = k at hk0 hk1
        refine ⟨.int k, rfl, k, 16807, rfl, rfl, .inr hw3, ?_⟩
        refine ⟨.ref st, rfl, st, _, 2, .int (c + 1), rfl, rfl, .inl (.inl D2.st'), rfl, c + 1, 40692, rfl, rfl, .inr hw4, k * 16807, (c + 1) * 40692, rfl, rfl, k * 16807 + (c + 1) * 40692, 13, rfl, rfl, ?_⟩
        refine ⟨k * 16807 + (c + 1) * 40692 + 13, 5, rfl, rfl, ⟨by omega, by omega, ?_⟩, .inl ⟨_, rfl, _, 2147483629, rfl, rfl, (by omega : (0 : Int) < 2147483629), .int size, rfl, _, size, rfl, rfl, hs0, ?_⟩⟩
        · have : (2 : Nat) ^ 64 = 18446744073709551616 := by decide
          omega
        exact hQ _ _ (Int.emod_nonneg _ (by omega)) (Int.emod_lt_of_pos _ hs0) ⟨q', r, [], cs, c + 1, D2, hb', hcs, by omega, by omega⟩ kp2
theorem ok_draw {f : Addr} {fd : FuncData} {k : Nat} (F : Fun K "_law_draw" "_law_draw" s_law_draw f fd) (m_int : mg "int" = none) (m_len : mg "len" = none) : FnOk P w K mg base CX0 (k + 1) f fd ["_law_state", "_law_size"] sp_draw := (ok_drawW F m_int m_len).imp fun _ _ _ _ h => sp_draw_W h
end
end Lw

namespace Lw
open PySem PySem.Spec PyProof.Rows L2
abbrev s_law_start : Stmt := topS 38
abbrev n_law_start : List Str := ["_law_script", "_law_cell"]
theorem sc_law_start : FnScope n_law_start ["_law_script"] (defScope s_law_start) := ⟨rfl, rfl, rfl, by decide +kernel, rfl, by decide +kernel, by decide +kernel⟩
section
variable {P : Program} {w : World} {K : PySem.W.Frag} {mg : Str → Option Value} {base : Heap}
theorem ok_start {f : Addr} {fd : FuncData} {k : Nat} (F : Fun K "_law_start" "_law_start" s_law_start f fd) (m_abs : mg "abs" = none) (m_list : mg "list" = none) : FnOk P w K mg base CX0 (k + 1) f fd ["_law_script"] (sp_start K) := by
  refine F.ok sc_law_start (fun vs H Q E h => ?_) (fun cdv A outer s H vs Q E hr h => ?_)
  · obtain ⟨a, ns, rfl, _⟩ := h
    rfl
  · obtain ⟨a, ns, rfl, hS, hlen, hQ⟩ := h
    refine ⟨_, (pss_one (ps_ret (pe_lst (pa_cons (pe_lc (own := [("_law_cell", 1)]) (g := gName 1) (by rfl) sc_law_start.nd (pi_list (pv 0)) (blkOk_by (own := [("_law_cell", 1)]) (N := n_law_start) (sc := defScope s_law_start) (by decide +kernel)) (fun _ _ _ _ _ => pg_name (i := 1) sc_law_start.nd rfl (by first | exact .inl rfl | exact .inr rfl)) (fun _ _ _ _ _ => (pts_one (pt_cmpR op_ge (pe_callB call_abs (by rfl) m_abs (by decide +kernel) (pa_cons (pv 1) pa_nil)) (pe_op op_pow pe_int pe_int) (nomark _)))) (fun _ _ _ _ _ => (pe_callB call_abs (by rfl) m_abs (by decide +kernel) (pa_cons (pv 1) pa_nil)))) (pa_cons (pe_op op_cat (pe_callTy call_list_of (by rfl) m_list (by decide +kernel) (pa_cons (pv 0) pa_nil)) (pe_lst (pa_cons pe_int pa_nil))) (pa_cons pe_int pa_nil)))))), ?_⟩
    refine ⟨.ref a, rfl, a, rfl, ⟨_, hS⟩, fun D nD => ?_⟩
    refine lc_list (xs := ns.map V.int) (fun i H' => Same H H' ∧ ∃ bs : List Int, H' D = some (.lst (bs.map V.int)) ∧ (∀ b ∈ bs, 0 ≤ b) ∧ bs.length ≤ i) ⟨Evl.Ex.new nD, [], upd_same, (fun _ h => by simp at h), Nat.le_refl _⟩ (fun i H' _ p => p.1.seq hS) (fun i x H' hx p => ?_) (fun H1 p => ?_)
    · rw [List.getElem?_map] at hx
      cases hz : ns[i]? with
      | none =>
        rw [hz] at hx
        cases hx
      | some z =>
        rw [hz] at hx
        cases hx
        have hi : i < ns.length := (List.getElem?_eq_some_iff.mp hz).1
        obtain ⟨sm, bs, eD, hb, hl⟩ := p
        refine ⟨rfl, .int z, rfl, z, rfl, 10, 18, rfl, rfl, ⟨by decide, by decide, by decide⟩, _, _, rfl, rfl, _, rfl, ite2 (fun _ => ?_) (fun _ => ⟨sm, bs, eD, hb, by omega⟩)⟩
        refine ⟨.int z, rfl, z, rfl, _, eD, ?_, fun b o e => ?_, bs ++ [if z < 0 then -z else z], ?_, ?_, ?_⟩
        · rw [List.length_map]
          exact small1000 (by omega)
        · rw [upd_ne (ne_of_none e nD)]
          exact sm b o e
        · rw [upd_same, List.map_append]
          rfl
        · intro b h
          rcases List.mem_append.mp h with h | h
          · exact hb b h
          · rw [List.mem_singleton.mp h]
            split <;> omega
        · rw [List.length_append]
          show bs.length + 1 ≤ i + 1
          omega
    · obtain ⟨sm, bs, eD, hb, hl⟩ := p
      refine ⟨.ref a, rfl, a, _, rfl, .inl (sm.seq hS), fun l nl => ⟨by show (1 : Nat) ≤ sizeLine; decide, fun e ne => ?_⟩⟩
      have elD := ne_of_none eD nl
      have h1 : (upd H1 l (.lst (ns.map V.int))) D = some (.lst (bs.map V.int)) := (upd_ne elD).trans eD
      have nel : l ≠ e := ne_of_none upd_same ne
      have neD := ne_of_none h1 ne
      refine ⟨l, e, _, _, rfl, rfl, (upd_ne nel).trans upd_same, upd_same, ?_, fun r nr => ⟨by show (3 : Nat) ≤ sizeLine; decide, fun st nst => ?_⟩⟩
      · show (ns.map V.int).length + 1 ≤ sizeLine
        rw [List.length_map]
        exact Nat.le_of_lt (small1000 (by omega))
      · have h2 : (upd (upd H1 l (.lst (ns.map V.int))) e (.lst [V.int 5])) D = some (.lst (bs.map V.int)) := (upd_ne neD).trans h1
        have h3 := ne_of_none h2 nr
        have h4 := (upd_ne (o := .lst (ns.map V.int ++ [V.int 5])) h3).trans h2
        have h5 := ne_of_none h4 nst
        have h6 : (upd (upd (upd H1 l (.lst (ns.map V.int))) e (.lst [V.int 5])) r (.lst (ns.map V.int ++ [V.int 5]))) r = some (.lst (ns.map V.int ++ [V.int 5])) := upd_same
        have h7 := ne_of_none h6 nst
        have dx : DX (upd (upd (upd (upd H1 l (.lst (ns.map V.int))) e (.lst [V.int 5])) r (.lst (ns.map V.int ++ [V.int 5]))) st (.lst [.ref D, .ref r, .int 0])) st D r bs (ns ++ [5]) 0 := ⟨upd_same, (upd_ne h5).trans h4, by rw [upd_ne h7, upd_same, List.map_append]; rfl, h3, h5, h7⟩
        refine hQ st _ ⟨D, r, bs, ns ++ [5], 0, dx, hb, by simp, by omega, by omega⟩ fun b o eb => ?_
        have b1 := sm b o eb
        have b2 := (upd_ne (o := .lst (ns.map V.int)) (ne_of_none b1 nl)).trans b1
        have b3 := (upd_ne (o := .lst [V.int 5]) (ne_of_none b2 ne)).trans b2
        have b4 := (upd_ne (o := .lst (ns.map V.int ++ [V.int 5])) (ne_of_none b3 nr)).trans b3
        have b5 := ne_of_none b4 nst
        exact (ap_iff dx).mpr ⟨(upd_ne b5).trans b4, b5, ne_of_none eb nD, ne_of_none b3 nr⟩
end
end Lw

namespace Lw
open PySem PySem.Spec PyProof.Rows L2
abbrev s_valid_name : Stmt := topS 14
abbrev n_valid_name : List Str := ["text", "sign"]
theorem sc_valid_name : FnScope n_valid_name ["text"] (defScope s_valid_name) := ⟨rfl, rfl, rfl, by decide +kernel, rfl, by decide +kernel, by decide +kernel⟩
section
variable {P : Program} {w : World} {K : PySem.W.Frag} {mg : Str → Option Value} {base : Heap}
theorem ok_vn {f : Addr} {fd : FuncData} {k : Nat} (F : Fun K "valid_name" "valid_name" s_valid_name f fd) (m_len : mg "len" = none) (m_all : mg "all" = none)
    (m_LETTERS : ∃ u, mg "LETTERS" = some u ∧ RelV (.str LET) u) (m_DIGITS : ∃ u, mg "DIGITS" = some u ∧ RelV (.str DIG) u) (m_MOST_SIGNS : ∃ u, mg "MOST_SIGNS" = some u ∧ RelV (.int 6) u) : FnOk P w K mg base CX0 (k + 1) f fd ["text"] sp_vn := by
  refine F.ok sc_valid_name (fun vs H Q E h => ?_) (fun cdv A outer s H vs Q E hr h => ?_)
  · obtain ⟨z, rfl, _⟩ := h
    rfl
  · obtain ⟨z, rfl, hz, hok, hQ⟩ := h
    have hzl : z.length ≤ sizeLine := Nat.le_of_lt (small1000 hz)
    refine ⟨_, (pss_cons (ps_if (pt_not (pt_chain op_le op_le pe_int (pe_callB call_len_str (by rfl) m_len PySem.boot_len (pa_cons (pv 0) pa_nil)) (pe_gv (by rfl) m_MOST_SIGNS)))
   (pss_one (ps_ret pe_bl))
   pss_nil)
  (pss_cons (ps_if (pt_cmpR op_notIn_sign (pe_ix ix_str (pv 0) pe_int (fun _ _ => rfl)) (pe_gv (by rfl) m_LETTERS) rfl)
   (pss_one (ps_ret pe_bl))
   pss_nil)
  (pss_one (ps_ret (pe_callB (cr_all rfl) (by rfl) m_all (by decide +kernel) (pa_cons (pe_lc (own := [("sign", 1)]) (g := gName 1) (by rfl) sc_valid_name.nd (pi_str (pv 0)) (blkOk_by (own := [("sign", 1)]) (N := n_valid_name) (sc := defScope s_valid_name) (by decide +kernel)) (fun _ _ _ _ _ => pg_name (i := 1) sc_valid_name.nd rfl (by first | exact .inl rfl | exact .inr rfl)) (fun _ _ _ _ _ => pts_nil) (fun _ _ _ _ _ => (pe_or (pe_cmpR op_in_sign (pv 1) (pe_gv (by rfl) m_LETTERS) rfl) (pe_one (pe_cmpR op_in_sign (pv 1) (pe_gv (by rfl) m_DIGITS) rfl))))) pa_nil)))))), ?_⟩
    refine Evl.q_when (b := !(decide ((1 : Int) ≤ (z.length : Int)) && decide ((z.length : Int) ≤ 6))) (Evl.et_not (Evl.et_test (ev_chain Evl.ev_c (Evl.ev_cb (Evl.ea_cons (Evl.ev_var rfl) Evl.ea_nil) (rc_lenStr hzl)) Evl.rv_I0 (fun _ => Evl.ev_c) (fun _ => Evl.rv_I0)))) (fun hb H1 e1 => Evl.s_ret Evl.ev_c fun H2 e2 => ?_) (fun hb H1 e1 => ?_)
    · have e : vn z = false := by
        unfold vn
        rw [len_tl] at hb
        cases hc : z.cps.toList with
        | nil => rfl
        | cons c r =>
          rw [hc] at hb
          have h7 : ¬ ((c :: r).length ≤ 6) := by
            intro h
            rw [decide_eq_true (by simp only [List.length_cons]; omega : (1 : Int) ≤ ((c :: r).length : Int)), decide_eq_true (by omega : ((c :: r).length : Int) ≤ 6)] at hb
            cases hb
          rw [vnL_cons, decide_eq_false h7]
          rfl
      rw [← e]
      exact hQ H2 (e1.trans e2)
    · obtain ⟨c, r, hc⟩ : ∃ c r, z.cps.toList = c :: r := by
        cases hc : z.cps.toList with
        | nil =>
          rw [len_tl, hc] at hb
          cases hb
        | cons c r => exact ⟨c, r, rfl⟩
      have h6 : z.cps.toList.length ≤ 6 := by
        rw [len_tl] at hb
        by_cases h : (z.cps.toList.length : Int) ≤ 6
        · omega
        · rw [decide_eq_false h] at hb
          simp at hb
      have hvn : vn z = (isL c && z.cps.toList.all fun d => isL d || isD d) := by
        unfold vn
        rw [hc]
        rw [vnL_cons, decide_eq_true (hc ▸ h6)]
        rfl
      refine Evl.q_when (b := !isL c) (Evl.et_test (Evl.ev_op (Evl.ev_op (Evl.ev_var rfl) Evl.ev_c (Evl.rv_ixS (c := c) (by omega) (atI_nat (j := 0) (by rw [hc]; rfl)))) Evl.ev_c rv_nsign)) (fun hb H2 e2 => Evl.s_ret Evl.ev_c fun H3 e3 => ?_) (fun hb H2 e2 => ?_)
      · have e : vn z = false := by
          rw [hvn]
          have : isL c = false := by simpa using hb
          rw [this]
          rfl
        rw [← e]
        exact hQ H3 ((e1.trans e2).trans e3)
      · have hL : isL c = true := by simpa using hb
        refine Evl.s_ret (v := .bl (vn z)) (Evl.ev_is (ev_cbL (el_lcS (p := fun _ => true) (g := fun d => .bl (isL d || isD d)) (Evl.ev_var rfl) (by omega) (fun _ => rfl) (fun _ _ _ _ => et_yes) (fun d H3 _ _ _ => Evl.ev_orV (Evl.ev_op (Evl.ev_var rfl) Evl.ev_c rv_sign) (fun _ => Evl.ev_op (Evl.ev_var rfl) Evl.ev_c rv_sign))) (fun p H3 hp _ => rc_all (bs := z.cps.toList.map fun d => isL d || isD d) (.inl (.inl ?_)))) ?_) (fun H3 e3 => hQ H3 ((e1.trans e2).trans e3))
        · rw [hp, List.filter_eq_self.mpr fun _ _ => rfl, List.map_map]
          rfl
        · rw [hvn, hL, List.all_map]
          rfl
end
end Lw

namespace Lw
open PySem PySem.Spec PyProof.Rows L2
abbrev s_law_good : Stmt := topS 41
abbrev n_law_good : List Str := ["_law_word", "_law_letters", "_law_sign"]
theorem sc_law_good : FnScope n_law_good ["_law_word"] (defScope s_law_good) := ⟨rfl, rfl, rfl, by decide +kernel, rfl, by decide +kernel, by decide +kernel⟩
section
variable {P : Program} {w : World} {K : PySem.W.Frag} {mg : Str → Option Value} {base : Heap}
theorem ok_good {f : Addr} {fd : FuncData} {k : Nat} (F : Fun K "_law_good" "_law_good" s_law_good f fd) (m_len : mg "len" = none) : FnOk P w K mg base CX0 (k + 1) f fd ["_law_word"] sp_vn := by
  refine F.ok sc_law_good (fun vs H Q E h => ?_) (fun cdv A outer s H vs Q E hr h => ?_)
  · obtain ⟨z, rfl, _⟩ := h
    rfl
  · obtain ⟨z, rfl, hz, hok, hQ⟩ := h
    have hzl : z.length ≤ sizeLine := Nat.le_of_lt (small1000 hz)
    have hll := len_tl z
    refine ⟨_, (pss_cons (ps_set (i := 1) sc_law_good.nd rfl (by first | exact .inl rfl | exact .inr rfl) pe_str)
  (pss_cons (ps_if (PW.pt (pw_or (pt_cmpR op_lt (pe_callB call_len_str (by rfl) m_len PySem.boot_len (pa_cons (pv 0) pa_nil)) pe_int (nomark _)) (pw_or (pt_cmpR op_gt (pe_callB call_len_str (by rfl) m_len PySem.boot_len (pa_cons (pv 0) pa_nil)) pe_int (nomark _)) (pw_or1 (pt_cmpR op_notIn_sign (pe_ix ix_str (pv 0) pe_int (fun _ _ => rfl)) (pv 1) rfl)))))
   (pss_one (ps_ret pe_bl))
   pss_nil)
  (pss_one (ps_ret (pe_cmpR (op_eqD hr.units) (pe_lc (own := [("_law_sign", 2)]) (g := gName 2) (by rfl) sc_law_good.nd (pi_str (pv 0)) (blkOk_by (own := [("_law_sign", 2)]) (N := n_law_good) (sc := defScope s_law_good) (by decide +kernel)) (fun _ _ _ _ _ => pg_name (i := 2) sc_law_good.nd rfl (by first | exact .inl rfl | exact .inr rfl)) (fun _ _ _ _ _ => (pts_one (pt_cmpR op_notIn_sign (pv 2) (pe_op op_add_str (pv 1) pe_str) rfl))) (fun _ _ _ _ _ => (pv 2))) (pe_lst pa_nil) (nomark _)))))), ?_⟩
    refine Evl.q_asg Evl.ev_c fun H0 e0 => ?_
    refine Evl.q_when (b := decide ((z.length : Int) < 1) || (decide ((6 : Int) < (z.length : Int)) || !isL (z.cps.toList.headD 0))) (Evl.et_or (Evl.et_test (Evl.ev_op (Evl.ev_cb (Evl.ea_cons (Evl.ev_var rfl) Evl.ea_nil) (rc_lenStr hzl)) Evl.ev_c Evl.rv_I0)) fun h1 =>
      Evl.et_or (Evl.et_test (Evl.ev_op (Evl.ev_cb (Evl.ea_cons (Evl.ev_var rfl) Evl.ea_nil) (rc_lenStr hzl)) Evl.ev_c Evl.rv_I0)) fun h2 => Evl.et_test (Evl.ev_op (Evl.ev_op (Evl.ev_var rfl) Evl.ev_c (Evl.rv_ixS (c := z.cps.toList.headD 0) (by omega) (atI_nat (j := 0) ?_))) (Evl.ev_var rfl) rv_nsign)) (fun hb H1 e1 => Evl.s_ret Evl.ev_c fun H2 e2 => ?_) (fun hb H1 e1 => ?_)
    · have : 0 < z.cps.toList.length := by
        have := of_decide_eq_false h1
        omega
      cases hc : z.cps.toList with
      | nil =>
        rw [hc] at this
        cases this
      | cons c r => rfl
    · have e : vn z = false := by
        unfold vn
        rw [hll] at hb
        cases hc : z.cps.toList with
        | nil => rfl
        | cons c r =>
          rw [hc] at hb
          rw [vnL_cons]
          by_cases h7 : (c :: r).length ≤ 6
          · rw [decide_eq_false (by simp only [List.length_cons]; omega : ¬ ((c :: r).length : Int) < 1), decide_eq_false (by omega : ¬ (6 : Int) < ((c :: r).length : Int))] at hb
            have : isL c = false := by simpa using hb
            rw [this]
            simp
          · rw [decide_eq_false h7]
            rfl
      rw [← e]
      exact hQ H2 ((e0.trans e1).trans e2)
    · obtain ⟨c, r, hc⟩ : ∃ c r, z.cps.toList = c :: r := by
        cases hc : z.cps.toList with
        | nil =>
          rw [hll, hc] at hb
          cases hb
        | cons c r => exact ⟨c, r, rfl⟩
      have hb' := hb
      rw [hll, Bool.or_eq_false_iff, Bool.or_eq_false_iff] at hb'
      have h6 : z.cps.toList.length ≤ 6 := by
        have := of_decide_eq_false hb'.2.1
        omega
      have hL : isL c = true := by
        have := hb'.2.2
        rw [hc] at this
        simpa using this
      have hvn : vn z = z.cps.toList.all fun d => isL d || isD d := by
        unfold vn
        rw [hc]
        rw [vnL_cons, decide_eq_true (hc ▸ h6), hL]
        rfl
      refine Evl.s_ret (v := .bl (vn z)) (Evl.ev_is (Evl.ev_opLL (el_lcS (p := fun d => !(decide (d ∈ (LET ++ DIG).cps.toList))) (g := fun d => .str ⟨#[d]⟩) (Evl.ev_var rfl) (by omega) (fun _ => rfl) (fun d H3 _ _ => Evl.et_test (Evl.ev_op (Evl.ev_var rfl) (Evl.ev_op (Evl.ev_var rfl) Evl.ev_c (rv_addS (by decide))) rv_nsign)) (fun d H3 _ _ _ => Evl.ev_var rfl)) (Evl.el_lst Evl.ea_nil (by decide)) (fun p q H3 hp hq _ => rv_eqD (d := .list ((z.cps.toList.filter fun d => !(decide (d ∈ (LET ++ DIG).cps.toList))).map fun d => .str ⟨#[d]⟩)) (e := .list []) (fun H4 e4 => .lst (.inl (.inl (e4 _ _ hp))) (dp_map fun d _ => .str _)) (fun H4 e4 => .lst (.inl (.inl (e4 _ _ hq))) .nil) ?_ sh_empty)) ?_) (fun H3 e3 => hQ H3 ((e0.trans e1).trans e3))
      · rw [show ((z.cps.toList.filter fun d => !(decide (d ∈ (LET ++ DIG).cps.toList))).map fun d => PyData.str ⟨#[d]⟩) = ((z.cps.toList.filter fun d => !(decide (d ∈ (LET ++ DIG).cps.toList))).map fun d => (⟨#[d]⟩ : Str)).map PyData.str by rw [List.map_map]; rfl]
        refine (good_strs fun y hy => ?_).shaped (by decide)
        obtain ⟨d, hd, rfl⟩ := List.mem_map.mp hy
        intro c' hc'
        have : c' = d := by simpa using hc'
        rw [this]
        exact hok d (List.mem_filter.mp hd).1
      · rw [eqv_nil_map, hvn]
        congr 1
        rw [Bool.eq_iff_iff, decide_eq_true_iff, List.filter_eq_nil_iff, List.all_eq_true]
        have hm : ∀ d, d ∈ (LET ++ DIG).cps.toList ↔ (d ∈ LET.cps.toList ∨ d ∈ DIG.cps.toList) := fun d => by
          rw [show (LET ++ DIG).cps.toList = LET.cps.toList ++ DIG.cps.toList from TL.tl_append LET DIG, List.mem_append]
        constructor
        · intro h d hd
          have := h d hd
          simp only [Bool.not_eq_true', decide_eq_false_iff_not, Classical.not_not, hm] at this
          simpa [isL, isD] using this
        · intro h d hd
          have := h d hd
          simp only [isL, isD, Bool.or_eq_true, decide_eq_true_iff] at this
          simp only [Bool.not_eq_true', decide_eq_false_iff_not, Classical.not_not, hm]
          exact this
end
end Lw

namespace Lw
open PySem PySem.Spec PyProof.Rows L2
abbrev s_law_names : Stmt := topS 40
abbrev n_law_names : List Str := ["_law_state", "_law_count", "_law_signs", "_law_stem", "_law_k", "_law_letter", "_law_offset", "_law_stride", "_law_plan", "_law_step", "_law_whole", "_law_words", "_law_sign", "_law_back"]
theorem sc_law_names : FnScope n_law_names ["_law_state", "_law_count"] (defScope s_law_names) := ⟨rfl, rfl, rfl, by decide +kernel, rfl, by decide +kernel, by decide +kernel⟩
section
variable {P : Program} {w : World} {K : PySem.W.Frag} {mg : Str → Option Value} {base : Heap}
theorem ok_names {f f2 : Addr} {fd fd2 : FuncData} (F : Fun K "_law_names" "_law_names" s_law_names f fd)
    (F_law_draw : Fun K "_law_draw" "_law_draw" s_law_draw f2 fd2) (b_law_draw : Binds K fd2 ["_law_state", "_law_size"] []) (g_law_draw : mg "_law_draw" = some (.ref f2)) (G_law_draw : FnOk P w K mg base CX0 1 f2 fd2 ["_law_state", "_law_size"] sp_draw)
    (m_range : mg "range" = none) (m_str : mg "str" = none) (m_int : mg "int" = none) : FnOk P w K mg base CX0 2 f fd ["_law_state", "_law_count"] sp_names := by
  refine F.ok sc_law_names (fun vs H Q E h => ?_) (fun cdv A outer s H vs Q E hr h => ?_)
  · obtain ⟨st, count, n, rfl, _⟩ := h
    rfl
  · obtain ⟨st, count, n, rfl, D, hn, hc0, hc1, hQ⟩ := h
    refine ⟨_, (pss_cons (ps_set (i := 2) sc_law_names.nd rfl (by first | exact .inl rfl | exact .inr rfl) pe_str)
  (pss_cons (ps_set (i := 3) sc_law_names.nd rfl (by first | exact .inl rfl | exact .inr rfl) (pe_join pe_str (pe_lc (own := [("_law_k", 4)]) (g := gName 4) (by rfl) sc_law_names.nd (pi_range1 (by rfl) m_range (pa_cons (pe_call G_law_draw (hr.mono (by decide)) (by rfl) g_law_draw F_law_draw.kp b_law_draw .nil pass0 (pa_cons (pv 0) (pa_cons pe_int pa_nil))) pa_nil)) (blkOk_by (own := [("_law_k", 4)]) (N := n_law_names) (sc := defScope s_law_names) (by decide +kernel)) (fun _ _ _ _ _ => pg_name (i := 4) sc_law_names.nd rfl (by first | exact .inl rfl | exact .inr rfl)) (fun _ _ _ _ _ => pts_nil) (fun _ _ _ _ _ => (pe_ix ix_str (pv 2) (pe_call G_law_draw (hr.mono (by decide)) (by rfl) g_law_draw F_law_draw.kp b_law_draw .nil pass0 (pa_cons (pv 0) (pa_cons pe_int pa_nil))) (fun _ _ => rfl))))))
  (pss_cons (ps_set (i := 5) sc_law_names.nd rfl (by first | exact .inl rfl | exact .inr rfl) (pe_ix ix_str (pv 2) (pe_call G_law_draw (hr.mono (by decide)) (by rfl) g_law_draw F_law_draw.kp b_law_draw .nil pass0 (pa_cons (pv 0) (pa_cons pe_int pa_nil))) (fun _ _ => rfl)))
  (pss_cons (ps_set (i := 6) sc_law_names.nd rfl (by first | exact .inl rfl | exact .inr rfl) (pe_call G_law_draw (hr.mono (by decide)) (by rfl) g_law_draw F_law_draw.kp b_law_draw .nil pass0 (pa_cons (pv 0) (pa_cons pe_int pa_nil))))
  (pss_cons (ps_set (i := 7) sc_law_names.nd rfl (by first | exact .inl rfl | exact .inr rfl) (pe_ix ix_list (pe_lst (pa_cons pe_int (pa_cons pe_int (pa_cons pe_int (pa_cons pe_int (pa_cons pe_int (pa_cons pe_int pa_nil))))))) (pe_call G_law_draw (hr.mono (by decide)) (by rfl) g_law_draw F_law_draw.kp b_law_draw .nil pass0 (pa_cons (pv 0) (pa_cons pe_int pa_nil))) (fun _ _ => rfl)))
  (pss_cons (ps_set (i := 8) sc_law_names.nd rfl (by first | exact .inl rfl | exact .inr rfl) (pe_call G_law_draw (hr.mono (by decide)) (by rfl) g_law_draw F_law_draw.kp b_law_draw .nil pass0 (pa_cons (pv 0) (pa_cons pe_int pa_nil))))
  (pss_cons (ps_if (PW.pt (pw_or (pt_cmpR op_eq (pv 8) pe_int (nomark _)) (pw_or1 (PW.pt (pw_and (pt_cmpR op_eq (pv 8) pe_int (nomark _)) (pw_and1 (pt_cmpR op_gt (pv 1) pe_int (nomark _))))))))
   (pss_cons (ps_set (i := 9) sc_law_names.nd rfl (by first | exact .inl rfl | exact .inr rfl) (pe_op op_add pe_int (pe_call G_law_draw (hr.mono (by decide)) (by rfl) g_law_draw F_law_draw.kp b_law_draw .nil pass0 (pa_cons (pv 0) (pa_cons pe_int pa_nil)))))
  (pss_one (ps_ret (pe_lc (own := [("_law_k", 4)]) (g := gName 4) (by rfl) sc_law_names.nd (pi_range1 (by rfl) m_range (pa_cons (pv 1) pa_nil)) (blkOk_by (own := [("_law_k", 4)]) (N := n_law_names) (sc := defScope s_law_names) (by decide +kernel)) (fun _ _ _ _ _ => pg_name (i := 4) sc_law_names.nd rfl (by first | exact .inl rfl | exact .inr rfl)) (fun _ _ _ _ _ => pts_nil) (fun _ _ _ _ _ => (pe_op op_add_str (pv 5) (pe_callTy call_str_int (by rfl) m_str (by decide +kernel) (pa_cons (pe_op op_mul (pv 9) (pe_op op_add (pv 4) pe_int)) pa_nil))))))))
   pss_nil)
  (pss_cons (ps_if (pt_cmpR op_eq (pv 8) pe_int (nomark _))
   (pss_cons (ps_set (i := 10) sc_law_names.nd rfl (by first | exact .inl rfl | exact .inr rfl) (pe_op op_add_str (pv 5) (pe_join pe_str (pe_lc (own := [("_law_k", 4)]) (g := gName 4) (by rfl) sc_law_names.nd (pi_range1 (by rfl) m_range (pa_cons pe_int pa_nil)) (blkOk_by (own := [("_law_k", 4)]) (N := n_law_names) (sc := defScope s_law_names) (by decide +kernel)) (fun _ _ _ _ _ => pg_name (i := 4) sc_law_names.nd rfl (by first | exact .inl rfl | exact .inr rfl)) (fun _ _ _ _ _ => pts_nil) (fun _ _ _ _ _ => (pe_ix ix_str (pv 2) (pe_call G_law_draw (hr.mono (by decide)) (by rfl) g_law_draw F_law_draw.kp b_law_draw .nil pass0 (pa_cons (pv 0) (pa_cons pe_int pa_nil))) (fun _ _ => rfl)))))))
  (pss_one (ps_ret (pe_lc (own := [("_law_k", 4)]) (g := gName 4) (by rfl) sc_law_names.nd (pi_range1 (by rfl) m_range (pa_cons (pv 1) pa_nil)) (blkOk_by (own := [("_law_k", 4)]) (N := n_law_names) (sc := defScope s_law_names) (by decide +kernel)) (fun _ _ _ _ _ => pg_name (i := 4) sc_law_names.nd rfl (by first | exact .inl rfl | exact .inr rfl)) (fun _ _ _ _ _ => pts_nil) (fun _ _ _ _ _ => (pe_slice sl_str (pv 10) po_none (po_some (pe_op op_add (pv 4) pe_int))))))))
   pss_nil)
  (pss_cons (ps_set (i := 11) sc_law_names.nd rfl (by first | exact .inl rfl | exact .inr rfl) (pe_lst pa_nil))
  (pss_cons (ps_for PassesOwn.never rfl  (pi_range1 (by rfl) m_range (pa_cons (pv 1) pa_nil)) (pg_name (i := 4) sc_law_names.nd rfl (by first | exact .inl rfl | exact .inr rfl))
   (pss_cons (ps_set (i := 12) sc_law_names.nd rfl (by first | exact .inl rfl | exact .inr rfl) (pe_ix ix_str (pv 2) (pe_op op_mod (pe_callTy call_int1 (by rfl) m_int (by decide +kernel) (pa_cons (pe_op op_add (pv 6) (pe_op op_mul (pv 7) (pv 4))) pa_nil)) pe_int) (fun _ _ => rfl)))
  (pss_cons (ps_set (i := 13) sc_law_names.nd rfl (by first | exact .inl rfl | exact .inr rfl) (pe_ix ix_list (pe_lst (pa_cons (pv 3) (pa_cons pe_str pa_nil))) (pe_callTy call_int1 (by rfl) m_int (by decide +kernel) (pa_cons (pe_and (pe_cmpR op_gt (pv 8) pe_int (nomark _)) (pe_one (pe_cmpR op_eq (pe_op op_mod (pv 4) pe_int) pe_int (nomark _)))) pa_nil)) (fun _ _ => rfl)))
  (pss_one (ps_expr (pe_bm PySem.F.plainAttrs_list PySem.F.slot_list_append PySem.F.type_list_append mt_append (pv 11) (pa_cons (pe_ix ix_list (pe_lst (pa_cons (pe_op op_add_str (pe_op op_add_str (pv 5) (pv 13)) (pv 12)) (pa_cons (pe_op op_add_str (pv 12) (pv 13)) pa_nil))) (pe_op op_mod (pe_callTy call_int1 (by rfl) m_int (by decide +kernel) (pa_cons (pv 8) pa_nil)) pe_int) (fun _ _ => rfl)) pa_nil)))))))
  (pss_one (ps_ret (pv 11))))))))))))), ?_⟩
    have s36 : SG36.length ≤ sizeLine := by decide +kernel
    have l36 := sg36_len
    have l36' : SG36.cps.toList.length = 36 := by rw [← len_tl]; exact l36
    -- the stem
    refine ⟨⟨_, rfl⟩, .ref st, rfl, st, 5, n, rfl, D, by omega, by omega, by omega, fun d1 H1 d10 d11 D1 k1 => ⟨d1, rfl, by omega, by omega, fun Dl nD => ?_⟩⟩
    refine lc_signs (z := SG36) (size := 36) (m := n + 1) (fun _ => rfl) (fun _ => rfl) (fun _ => rfl) (by omega) (by omega) (by omega) (by omega) (by omega) D1 nD (fun H2 zs D2 k2 ap2 hl2 hy2 => ?_)
    obtain ⟨sl, sn, ss⟩ := stem_ok hy2
    refine ⟨_, Dl, zs, rfl, rfl, .inl (.inl (.inl ap2.1)), ?_, ?_⟩
    · rw [ss]
      show zs.length + zs.length * 0 ≤ 16777216
      omega
    have sl4 : (Txt.join "" zs).cps.toList.length ≤ 4 := by omega
    have D2' := D2.mono (m := n + 5) (by omega)
    have k12 := k1.trans k2
    clear D2 ap2 sl ss hy2 k1 k2 D1 hl2 nD
    revert sn sl4
    generalize Txt.join "" zs = stem
    intro sn sl4
    -- letter, offset, stride, plan
    refine ⟨.str SG36, rfl, .ref st, rfl, st, 26, n + 5, rfl, D2', by omega, by omega, by omega, fun d3 H3 d30 d31 D3 k3 => ?_⟩
    obtain ⟨j3, rfl⟩ : ∃ j : Nat, d3 = (j : Int) := ⟨d3.toNat, by omega⟩
    have hj3 : j3 < SG36.cps.toList.length := by omega
    have hc3 := List.getElem?_eq_getElem hj3
    obtain ⟨lN, lL⟩ := sg36_at hc3
    have lL' := (lL (by omega)).2
    refine ⟨SG36, _, _, rfl, rfl, s36, atI_nat hc3, ?_⟩
    generalize SG36.cps.toList[j3] = letter at lN lL' 
    refine ⟨.ref st, rfl, st, 26, n + 6, rfl, D3, by omega, by omega, by omega, fun offset H4 o0 o1 D4 k4 => ?_⟩
    refine ⟨Nat.le_trans (by decide : 6 ≤ 1000) (by decide), fun p np => ?_⟩
    refine ⟨.ref st, rfl, st, 6, n + 7, rfl, D4.new np, by omega, by omega, by omega, fun d5 H5 d50 d51 D5 k5 => ?_⟩
    have ap5 := k5 _ _ (D4.fresh np)
    obtain ⟨v5, hv5, hm5⟩ := atI_some (xs := [V.int 1, V.int 3, V.int 5, V.int 7, V.int 9, V.int 11]) d50 d51
    obtain ⟨stride, rfl, hstr⟩ : ∃ s : Int, v5 = .int s ∧ (s = 1 ∨ s = 3 ∨ s = 5 ∨ s = 7 ∨ s = 9 ∨ s = 11) := by
      simp only [List.mem_cons, List.not_mem_nil, or_false] at hm5
      rcases hm5 with rfl | rfl | rfl | rfl | rfl | rfl <;> exact ⟨_, rfl, by omega⟩
    refine ⟨p, _, _, _, rfl, rfl, .inl (.inl ap5.1), hv5, ?_⟩
    refine ⟨.ref st, rfl, st, 6, n + 8, rfl, D5, by omega, by omega, by omega, fun plan H6 p0 p1 D6 k6 => ?_⟩
    have kp6 : Kp st H H6 := (k12.trans (k3.trans (k4.trans (Kp.trans (D4.newK np) k5)))).trans k6
    clear k12 k3 k4 k5 k6 ap5 hv5 hm5 np D2' D3 D4 D5
    -- a letter and a number
    refine Evl.q_when (b := decide (V.int plan = V.int 4) || (decide (V.int plan = V.int 5) && decide ((6 : Int) < count))) (Evl.et_or (Evl.et_test (Evl.ev_op (Evl.ev_var rfl) Evl.ev_c (Evl.rv_eq rfl))) fun _ => Evl.et_and (Evl.et_test (Evl.ev_op (Evl.ev_var rfl) Evl.ev_c (Evl.rv_eq rfl))) fun _ => Evl.et_test (Evl.ev_op (Evl.ev_var rfl) Evl.ev_c Evl.rv_I0)) (fun hb H7 e7 => ?_) (fun hb H7 e7 => ?_)
    · have D7 := D6.ex e7
      have kp7 := kp6.trans (D6.exK e7)
      refine ⟨.ref st, rfl, st, 9, n + 9, rfl, D7, by omega, by omega, by omega, fun d8 H8 d80 d81 D8 k8 => ⟨1, d8, rfl, rfl, ?_⟩⟩
      have kp8 := kp7.trans k8
      obtain ⟨step, hst⟩ : ∃ s : Nat, 1 + d8 = (s : Int) := ⟨(1 + d8).toNat, by omega⟩
      have hs1 : 1 ≤ step ∧ step ≤ 9 := by omega
      have hlt : ∀ k : Nat, k < 9 → step * (k + 1) < 100 := fun k hk => Nat.lt_of_le_of_lt (Nat.mul_le_mul hs1.2 (by omega : k + 1 ≤ 9)) (by decide)
      have key := row_names (n := count.toNat) (f := fun k => (⟨#[letter]⟩ : Str) ++ Str.ofString (toString ((step * (k + 1) : Nat) : Int))) (fun k hk => by
        have hh := num_codes (step * (k + 1)) (hlt k (by omega))
        refine vn_of (c := letter) (r := (Str.ofString (toString ((step * (k + 1) : Nat) : Int))).cps.toList) (by rw [app_codes]; rfl) (by omega) lL' fun d hd => ?_
        unfold isN
        rw [hh.1 d hd]
        exact Bool.or_true _) (fun i k hik hk e => by
        have e2 := congrArg (fun z : Str => z.cps.toList) e
        simp only [app_codes] at e2
        have e3 := num_inj _ _ (hlt i (by omega)) (hlt k (by omega)) (List.append_cancel_left e2)
        have := Nat.eq_of_mul_eq_mul_left (by omega) e3
        omega)
      refine Evl.s_retL (Evl.el_lcR1 (fun _ => true) (fun k => .str ((⟨#[letter]⟩ : Str) ++ Str.ofString (toString ((step * (k + 1) : Nat) : Int)))) (Evl.ea_cons (Evl.ev_var rfl) Evl.ea_nil) (by omega) (fun _ => rfl) (fun i H1 _ _ => et_yes) (fun i H1 _ hi _ => ?_)) (fun q H9 nq e9 hq => ?_)
      · have hi9 : i < 9 := by omega
        have e1 : (1 + d8) * ((i : Int) + 1) = ((step * (i + 1) : Nat) : Int) := by
          rw [hst]
          push_cast
          rfl
        have hh := hlt i hi9
        refine Evl.ev_op (Evl.ev_var rfl) (Evl.ev_cb (Evl.ea_cons (Evl.ev_is (Evl.ev_op (Evl.ev_var rfl) (Evl.ev_op (Evl.ev_var rfl) Evl.ev_c Evl.rv_I0) (Evl.rv_I (.inl ⟨by omega, by omega⟩))) (congrArg V.int e1)) Evl.ea_nil) (rc_strI ?_)) (rv_addS ?_)
        · rw [Int.natAbs_natCast]
          exact Nat.lt_of_le_of_lt (Nat.log2_le_self _) (by omega)
        · have := (num_codes _ hh).2
          rw [len_tl, len_tl]
          refine Nat.le_trans (Nat.add_le_add (Nat.le_refl 1) this) (by decide)
      · rw [given_all] at hq
        refine hQ q ((List.range count.toNat).map fun k => (⟨#[letter]⟩ : Str) ++ Str.ofString (toString ((step * (k + 1) : Nat) : Int))) H9 ((D8.ex e9).mono (by omega)) (kp8.trans (D8.exK e9)) (fun b o hb => ne_of_none (kp8 b o hb).1 nq) ?_ key.1 key.2.1 key.2.2
        have ee : ((List.range count.toNat).map fun k => (⟨#[letter]⟩ : Str) ++ Str.ofString (toString ((step * (k + 1) : Nat) : Int))).map V.str = (List.range count.toNat).map fun k => V.str ((⟨#[letter]⟩ : Str) ++ Str.ofString (toString ((step * (k + 1) : Nat) : Int))) := by
          rw [List.map_map]
          rfl
        rw [ee]
        exact D8.exNew e9 nq hq
    -- the parts of one word
    have D7 := D6.ex e7
    have kp7 := kp6.trans (D6.exK e7)
    refine Evl.q_when (b := decide (V.int plan = V.int 5)) (Evl.et_test (Evl.ev_op (Evl.ev_var rfl) Evl.ev_c (Evl.rv_eq rfl))) (fun hb2 H8 e8 => ?_) (fun hb2 H8 e8 => ?_)
    · have hcount : count ≤ 6 := by
        rw [hb2, Bool.true_and, Bool.or_eq_false_iff] at hb
        have := of_decide_eq_false hb.2
        omega
      have D8 := D7.ex e8
      have kp8 := kp7.trans (D7.exK e8)
      refine ⟨.str ⟨#[letter]⟩, rfl, ⟨_, rfl⟩, 5, rfl, by omega, by omega, fun Dl nD => ?_⟩
      refine lc_signs (z := SG36) (size := 36) (m := n + 9) (fun _ => rfl) (fun _ => rfl) (fun _ => rfl) (by omega) (by omega) (by omega) (by omega) (by omega) D8 nD (fun H9 zs D9 k9 ap9 hl9 hy9 => ?_)
      obtain ⟨sl9, sn9, ss9⟩ := stem_ok hy9
      refine ⟨_, Dl, zs, rfl, rfl, .inl (.inl (.inl ap9.1)), ?_, ?_⟩
      · rw [ss9]
        show zs.length + zs.length * 0 ≤ 16777216
        omega
      have kp9 := kp8.trans k9
      have sl5 : (Txt.join "" zs).cps.toList.length = 5 := by
        rw [sl9, hl9]
        decide
      clear ap9 sl9 ss9 hy9 k9 hl9
      revert sn9 sl5
      generalize Txt.join "" zs = tail
      intro sn9 sl5
      have wl : ((⟨#[letter]⟩ : Str) ++ tail).cps.toList = letter :: tail.cps.toList := by rw [app_codes]; rfl
      have wl6 : ((⟨#[letter]⟩ : Str) ++ tail).length ≤ sizeLine := by
        rw [len_tl, wl, List.length_cons, sl5]
        decide
      refine ⟨⟨#[letter]⟩, tail, rfl, rfl, ?_, ?_⟩
      · rw [len_tl tail, sl5]
        exact (by decide : 1 + 5 ≤ sizeLine)
      have key := row_names (n := count.toNat) (f := fun k => cutS ((⟨#[letter]⟩ : Str) ++ tail) none (some ((k + 1 : Nat) : Int))) (fun k hk => by
        refine vn_of (c := letter) (r := tail.cps.toList.take k) (by rw [cutS_to, wl, List.take_succ_cons]) (by rw [List.length_take]; omega) lL' fun d hd => sn9 d (List.mem_of_mem_take hd)) (fun i k hik hk e => by
        have e2 := congrArg (fun z : Str => z.cps.toList.length) e
        simp only [cutS_to, List.length_take, wl, List.length_cons, sl5] at e2
        omega)
      refine Evl.s_retL (Evl.el_lcR1 (fun _ => true) (fun k => .str (cutS ((⟨#[letter]⟩ : Str) ++ tail) none (some ((k + 1 : Nat) : Int)))) (Evl.ea_cons (Evl.ev_var rfl) Evl.ea_nil) (by omega) (fun _ => rfl) (fun i H1 _ _ => et_yes) (fun i H1 _ hi _ => ?_)) (fun q H10 nq e10 hq => ?_)
      · refine ev_slS (Evl.ev_var rfl) Evl.eo_none (Evl.eo_some (Evl.ev_is (Evl.ev_op (Evl.ev_var rfl) Evl.ev_c Evl.rv_I0) (congrArg V.int ?_))) wl6
        push_cast
        rfl
      · rw [given_all] at hq
        refine hQ q ((List.range count.toNat).map fun k => cutS ((⟨#[letter]⟩ : Str) ++ tail) none (some ((k + 1 : Nat) : Int))) H10 ((D9.ex e10).mono (by omega)) (kp9.trans (D9.exK e10)) (fun b o hb => ne_of_none (kp9 b o hb).1 nq) ?_ key.1 key.2.1 key.2.2
        rw [List.map_map]
        exact D9.exNew e10 nq hq
    -- a letter, the stem, a sign
    have D8 := D7.ex e8
    have kp8 := kp7.trans (D7.exK e8)
    refine ⟨Nat.zero_le _, fun l nl => ?_⟩
    let sg : Nat → Nat := fun k => 97 + ((offset + stride * (k : Int)) % 26).toNat
    let bk : Nat → Str := fun k => if (decide (1 < plan) && decide ((k : Int) % 2 = 1)) = true then "" else stem
    let W : Nat → Str := fun k => if plan % 2 = 0 then (⟨#[letter]⟩ : Str) ++ bk k ++ ⟨#[sg k]⟩ else (⟨#[sg k]⟩ : Str) ++ bk k
    have hsg : ∀ k, sg k < 123 ∧ 97 ≤ sg k ∧ (sg k : Int) = 97 + (offset + stride * (k : Int)) % 26 := fun k => by
      have h1 := Int.emod_nonneg (offset + stride * (k : Int)) (by decide : (26 : Int) ≠ 0)
      have h2 := Int.emod_lt_of_pos (offset + stride * (k : Int)) (by decide : (0 : Int) < 26)
      show 97 + _ < 123 ∧ 97 ≤ 97 + _ ∧ ((97 + _ : Nat) : Int) = _
      omega
    have hsL : ∀ k, isL (sg k) = true := fun k => isL_iff.mpr ⟨(hsg k).2.1, (hsg k).1⟩
    have hsN : ∀ k, isN (sg k) = true := fun k => by unfold isN; rw [hsL k]; rfl
    have hbk : ∀ k, (bk k).cps.toList.length ≤ 4 ∧ ∀ c ∈ (bk k).cps.toList, isN c = true := fun k => by
      show (if (decide (1 < plan) && decide ((k : Int) % 2 = 1)) = true then ("" : Str) else stem).cps.toList.length ≤ 4 ∧ ∀ c ∈ (if (decide (1 < plan) && decide ((k : Int) % 2 = 1)) = true then ("" : Str) else stem).cps.toList, isN c = true
      split
      · exact ⟨by decide +kernel, by decide +kernel⟩
      · exact ⟨sl4, sn⟩
    have hdiff : ∀ i k : Nat, i < k → k < 9 → sg i ≠ sg k := fun i k hik hk e => by
      have e1 := (hsg i).2.2
      have e2 := (hsg k).2.2
      rw [e] at e1
      rcases hstr with rfl | rfl | rfl | rfl | rfl | rfl <;> omega
    have key := row_names (n := count.toNat) (f := W) (fun k hk => by
        show vn (if plan % 2 = 0 then _ else _) = true
        split
        · refine vn_of (c := letter) (r := (bk k).cps.toList ++ [sg k]) (by rw [app_codes, app_codes]; rfl) (by rw [List.length_append]; have := (hbk k).1; simp; omega) lL' fun d hd => ?_
          rcases List.mem_append.mp hd with h | h
          · exact (hbk k).2 d h
          · rw [List.mem_singleton.mp h]
            exact hsN k
        · exact vn_of (c := sg k) (r := (bk k).cps.toList) (by rw [app_codes]; rfl) (by have := (hbk k).1; omega) (hsL k) (hbk k).2) (fun i k hik hk e => by
        have hne := hdiff i k hik (by omega)
        have e2 := congrArg (fun z : Str => z.cps.toList) e
        by_cases hp : plan % 2 = 0
        · simp only [W, if_pos hp, app_codes] at e2
          have e3 := (List.append_inj' e2 rfl).2
          exact hne (List.cons.inj e3).1
        · simp only [W, if_neg hp, app_codes] at e2
          exact hne (List.cons.inj e2).1)
    refine Evl.q_forR1 (Evl.ea_cons (Evl.ev_var rfl) Evl.ea_nil) (by omega) (fun i σ' H' => ∃ a4 a12 a13, σ' = [some (.ref st), some (.int count), some (.str SG36), some (.str stem), a4, some (.str ⟨#[letter]⟩), some (.int offset), some (.int stride), some (.int plan), none, none, some (.ref l), a12, a13] ∧ DS H' st (n + 9) ∧ Kp st H8 H' ∧ Ap H' st l (.lst ((List.range i).map fun k => V.str (W k)))) (fun H1 e1 => ?_) (fun i σ' H' hi ⟨a4, a12, a13, es, Di, ki, ai⟩ => ?_) (fun σ' H' ⟨a4, a12, a13, es, Di, ki, ai⟩ => ?_)
    · exact ⟨none, none, none, rfl, (D8.new nl).ex e1, (D8.newK nl).trans ((D8.new nl).exK e1), (D8.new nl).exK e1 _ _ (D8.fresh nl)⟩
    · subst es
      have hi9 : i < 9 := by omega
      have hs := hsg i
      have hat : atI SG36.cps.toList ((offset + stride * (i : Int)) % 26) = some (sg i) := by
        have : (offset + stride * (i : Int)) % 26 = ((sg i - 97 : Nat) : Int) := by omega
        rw [this]
        refine atI_nat ?_
        rw [sg36_codes, List.getElem?_append_left (by simp; omega), List.getElem?_map, List.getElem?_range (by omega)]
        show some (97 + (sg i - 97)) = some (sg i)
        congr 1
        omega
      refine Evl.q_asg (v := .str ⟨#[sg i]⟩) (Evl.ev_op (Evl.ev_var rfl) (Evl.ev_op (Evl.ev_cb (Evl.ea_cons (Evl.ev_op (Evl.ev_var rfl) (Evl.ev_op (Evl.ev_var rfl) (Evl.ev_var rfl) (Evl.rv_I (.inr ⟨by omega, by omega⟩))) Evl.rv_I0) Evl.ea_nil) rc_int) Evl.ev_c (Evl.rv_I (by decide))) (Evl.rv_ixS (by omega) hat)) fun H1 e1 => ?_
      refine Evl.q_asg (v := .str (bk i)) (ev_ixNew (xs := [.str stem, .str ""]) (i := if (decide (1 < plan) && decide ((i : Int) % 2 = 1)) = true then 1 else 0) (Evl.el_lst (Evl.ea_cons (Evl.ev_var rfl) (Evl.ea_cons Evl.ev_c Evl.ea_nil)) (by show 2 ≤ 100000; decide)) (Evl.ev_cb (Evl.ea_cons (Evl.ev_andV (Evl.ev_op (Evl.ev_var rfl) Evl.ev_c Evl.rv_I0) fun _ => Evl.ev_is (Evl.ev_op (Evl.ev_op (Evl.ev_var rfl) Evl.ev_c (Evl.rv_I (by decide))) Evl.ev_c (Evl.rv_eq rfl)) (congrArg V.bl ?_)) Evl.ea_nil) rc_intB) ?_) fun H2 e2 => ?_
      · by_cases h : (i : Int) % 2 = 1
        · rw [h]
          rfl
        · rw [decide_eq_false h]
          exact decide_eq_false fun z => h (V.int.inj z)
      · show atI [V.str stem, V.str ""] (if (decide (1 < plan) && decide ((i : Int) % 2 = 1)) = true then 1 else 0) = some (V.str (if (decide (1 < plan) && decide ((i : Int) % 2 = 1)) = true then ("" : Str) else stem))
        split
        · rfl
        · exact atI_nat (j := 0) rfl
      have D2 := (Di.ex e1).ex e2
      have kk := ((Di.exK e1).trans ((Di.ex e1).exK e2))
      have a2 := kk _ _ ai
      have hbl : (bk i).length ≤ 4 := by
        rw [len_tl]
        exact (hbk i).1
      have hpl : plan % 2 = 0 ∨ plan % 2 = 1 := by omega
      refine Evl.s_app (v := .str (W i)) a2.1 (Evl.ev_var rfl) (ev_ixNew (xs := [.str ((⟨#[letter]⟩ : Str) ++ bk i ++ ⟨#[sg i]⟩), .str ((⟨#[sg i]⟩ : Str) ++ bk i)]) (i := plan % 2) (Evl.el_lst (Evl.ea_cons (Evl.ev_op (Evl.ev_op (Evl.ev_var rfl) (Evl.ev_var rfl) (rv_addS ?_)) (Evl.ev_var rfl) (rv_addS ?_)) (Evl.ea_cons (Evl.ev_op (Evl.ev_var rfl) (Evl.ev_var rfl) (rv_addS ?_)) Evl.ea_nil)) (by show 2 ≤ 100000; decide)) (Evl.ev_op (Evl.ev_cb (Evl.ea_cons (Evl.ev_var rfl) Evl.ea_nil) rc_int) Evl.ev_c (Evl.rv_I (by decide))) ?_) ?_ fun H3 e3 => ?_
      · exact Nat.le_trans (Nat.add_le_add (Nat.le_refl 1) hbl) (by decide)
      · rw [len_append]
        exact Nat.le_trans (Nat.add_le_add (Nat.add_le_add (Nat.le_refl 1) hbl) (Nat.le_refl 1)) (by decide)
      · exact Nat.le_trans (Nat.add_le_add (Nat.le_refl 1) hbl) (by decide)
      · show atI _ _ = some (V.str (if plan % 2 = 0 then _ else _))
        rcases hpl with h | h
        · rw [if_pos h, h]
          exact atI_nat (j := 0) rfl
        · rw [if_neg (by omega), h]
          exact atI_nat (j := 1) rfl
      · rw [List.length_map, List.length_range]
        omega
      · have D3 := D2.ex e3
        have a3 := D2.exK e3 _ _ a2
        refine ⟨_, _, _, rfl, D3.put a3, ?_, ?_⟩
        · exact Kp.put (ki.trans (kk.trans (D2.exK e3))) nl D3 a3
        · rw [List.range_succ, List.map_append]
          exact D3.putA a3
    · subst es
      refine ⟨.ref l, rfl, ?_⟩
      refine hQ l ((List.range count.toNat).map W) H' (Di.mono (by omega)) (kp8.trans ki) (fun b o hb => ne_of_none (kp8 b o hb).1 nl) ?_ key.1 key.2.1 key.2.2
      rw [List.map_map]
      exact ai
end
end Lw

namespace Lw
open PySem PySem.Spec PyProof.Rows L2
abbrev s_iBadCount : Stmt := inClass (topS 5) 0
abbrev n_iBadCount : List Str := ["self", "count"]
theorem sc_iBadCount : FnScope n_iBadCount ["self", "count"] (defScope s_iBadCount) := ⟨rfl, rfl, rfl, by decide +kernel, rfl, by decide +kernel, by decide +kernel⟩
theorem ok_iBadCount {P : Program} {w : World} {K : PySem.W.Frag} {mg : Str → Option Value} {base : Heap} {f : Addr} {fd : FuncData} {C : Addr} (F : Fun K "__init__" "BadCount.__init__" s_iBadCount f fd) (O : OexC K C) (no : PySem.W.findIn K (.ref C) "count" = some none) : FnOk P w K mg base CX0 1 f fd ["self", "count"] (sp_init1 K C "count") := by
  refine F.ok sc_iBadCount (fun vs H Q E h => ?_) (fun cdv A outer s H vs Q E hr h => ⟨_, pss_one (ps_ost (pv 0) (pv 1)), ?_⟩)
  · obtain ⟨a, y, rfl, _⟩ := h
    rfl
  · obtain ⟨a, y, rfl, ha, hQ⟩ := h
    exact ⟨y, rfl, .ref a, rfl, a, C, rfl, O, no, .inl ⟨ha, hQ⟩⟩
abbrev s_iBadName : Stmt := inClass (topS 3) 0
abbrev n_iBadName : List Str := ["self", "name"]
theorem sc_iBadName : FnScope n_iBadName ["self", "name"] (defScope s_iBadName) := ⟨rfl, rfl, rfl, by decide +kernel, rfl, by decide +kernel, by decide +kernel⟩
theorem ok_iBadName {P : Program} {w : World} {K : PySem.W.Frag} {mg : Str → Option Value} {base : Heap} {f : Addr} {fd : FuncData} {C : Addr} (F : Fun K "__init__" "BadName.__init__" s_iBadName f fd) (O : OexC K C) (no : PySem.W.findIn K (.ref C) "name" = some none) : FnOk P w K mg base CX0 1 f fd ["self", "name"] (sp_init1 K C "name") := by
  refine F.ok sc_iBadName (fun vs H Q E h => ?_) (fun cdv A outer s H vs Q E hr h => ⟨_, pss_one (ps_ost (pv 0) (pv 1)), ?_⟩)
  · obtain ⟨a, y, rfl, _⟩ := h
    rfl
  · obtain ⟨a, y, rfl, ha, hQ⟩ := h
    exact ⟨y, rfl, .ref a, rfl, a, C, rfl, O, no, .inl ⟨ha, hQ⟩⟩
abbrev s_iDuplicateName : Stmt := inClass (topS 4) 0
abbrev n_iDuplicateName : List Str := ["self", "name"]
theorem sc_iDuplicateName : FnScope n_iDuplicateName ["self", "name"] (defScope s_iDuplicateName) := ⟨rfl, rfl, rfl, by decide +kernel, rfl, by decide +kernel, by decide +kernel⟩
theorem ok_iDuplicateName {P : Program} {w : World} {K : PySem.W.Frag} {mg : Str → Option Value} {base : Heap} {f : Addr} {fd : FuncData} {C : Addr} (F : Fun K "__init__" "DuplicateName.__init__" s_iDuplicateName f fd) (O : OexC K C) (no : PySem.W.findIn K (.ref C) "name" = some none) : FnOk P w K mg base CX0 1 f fd ["self", "name"] (sp_init1 K C "name") := by
  refine F.ok sc_iDuplicateName (fun vs H Q E h => ?_) (fun cdv A outer s H vs Q E hr h => ⟨_, pss_one (ps_ost (pv 0) (pv 1)), ?_⟩)
  · obtain ⟨a, y, rfl, _⟩ := h
    rfl
  · obtain ⟨a, y, rfl, ha, hQ⟩ := h
    exact ⟨y, rfl, .ref a, rfl, a, C, rfl, O, no, .inl ⟨ha, hQ⟩⟩
abbrev s_goods_of : Stmt := topS 18
abbrev n_goods_of : List Str := ["names", "at", "name"]
theorem sc_goods_of : FnScope n_goods_of ["names"] (defScope s_goods_of) := ⟨rfl, rfl, rfl, by decide +kernel, rfl, by decide +kernel, by decide +kernel⟩
section
variable {P : Program} {w : World} {K : PySem.W.Frag} {mg : Str → Option Value} {base : Heap}
theorem ok_goods {f CB CN CD fB fN fD fV : Addr} {fd fdB fdN fdD fdV : FuncData} (F : Fun K "goods_of" "goods_of" s_goods_of f fd)
    (EB : ErC P w K mg base "BadCount" "count" CB fB fdB) (EN : ErC P w K mg base "BadName" "name" CN fN fdN) (ED : ErC P w K mg base "DuplicateName" "name" CD fD fdD)
    (F_valid_name : Fun K "valid_name" "valid_name" s_valid_name fV fdV) (b_valid_name : Binds K fdV ["text"] []) (g_valid_name : mg "valid_name" = some (.ref fV)) (G_valid_name : FnOk P w K mg base CX0 2 fV fdV ["text"] sp_vn)
    (m_len : mg "len" = none) (m_enumerate : mg "enumerate" = none) (m_tuple : mg "tuple" = none) (m_sorted : mg "sorted" = none) (m_MOST_GOODS : ∃ u, mg "MOST_GOODS" = some u ∧ RelV (.int 5) u) :
    FnOk P w K mg base (L2.CX P w) 3 f fd ["names"] (sp_goods K CB CN CD) := by
  refine F.okX sc_goods_of (fun vs H Q E h => ?_) (fun cdv A outer s H vs Q E hr h => ?_)
  · obtain ⟨a, ws, rfl, _⟩ := h
    rfl
  · obtain ⟨a, ws, rfl, hS, hT, hL, hQ⟩ := h
    have O_BadCount := EB.O
    have i_BadCount := EB.i
    have t_BadCount := EB.t
    have G_iBadCount := EB.G
    have b_iBadCount := EB.b
    have g_BadCount := EB.g
    have O_BadName := EN.O
    have i_BadName := EN.i
    have t_BadName := EN.t
    have G_iBadName := EN.G
    have b_iBadName := EN.b
    have g_BadName := EN.g
    have O_DuplicateName := ED.O
    have i_DuplicateName := ED.i
    have t_DuplicateName := ED.t
    have G_iDuplicateName := ED.G
    have b_iDuplicateName := ED.b
    have g_DuplicateName := ED.g
    refine ⟨_, (pss_cons (ps_if (pt_not (pt_chain op_le op_le pe_int (pe_callB call_len_seq (by rfl) m_len PySem.boot_len (pa_cons (pv 0) pa_nil)) (pe_gv (by rfl) m_MOST_GOODS)))
   (pss_one (ps_raise rfl (takes_of rfl rfl rfl rfl) (pmk_oex O_BadCount i_BadCount t_BadCount G_iBadCount (hr.mono (by decide)) b_iBadCount .nil pass0 (by rfl) g_BadCount (pa_cons (pe_callB call_len_seq (by rfl) m_len PySem.boot_len (pa_cons (pv 0) pa_nil)) pa_nil))))
   pss_nil)
  (pss_cons (ps_for (passes_of rfl) rfl  (pi_enumS (by rfl) m_enumerate (pa_cons (pv 0) pa_nil)) (pg_tup rfl (pgs_cons (pg_name (i := 1) sc_goods_of.nd rfl (by first | exact .inl rfl | exact .inr rfl)) (pgs_cons (pg_name (i := 2) sc_goods_of.nd rfl (by first | exact .inl rfl | exact .inr rfl)) pgs_nil)))
   (pss_cons (ps_if (pt_not (pt_val (pe_call G_valid_name (hr.mono (by decide)) (by rfl) g_valid_name F_valid_name.kp b_valid_name .nil pass0 (pa_cons (pv 2) pa_nil))))
   (pss_one (ps_raise rfl (takes_of rfl rfl rfl rfl) (pmk_oex O_BadName i_BadName t_BadName G_iBadName (hr.mono (by decide)) b_iBadName .nil pass0 (by rfl) g_BadName (pa_cons (pv 2) pa_nil))))
   pss_nil)
  (pss_one (ps_if (pt_cmpR op_in_seq (pv 2) (pe_slice (SlR.or sl_list sl_tupA) (pv 0) po_none (po_some (pv 1))) (by with_unfolding_all rfl))
   (pss_one (ps_raise rfl (takes_of rfl rfl rfl rfl) (pmk_oex O_DuplicateName i_DuplicateName t_DuplicateName G_iDuplicateName (hr.mono (by decide)) b_iDuplicateName .nil pass0 (by rfl) g_DuplicateName (pa_cons (pv 2) pa_nil))))
   pss_nil))))
  (pss_one (ps_ret (pe_callTy call_tuple_of (by rfl) m_tuple (by decide +kernel) (pa_cons (pe_callB (cr_sortedM hr.units) (by rfl) m_sorted (by decide +kernel) (pa_cons (pv 0) pa_nil)) pa_nil)))))), ?_⟩
    have len : ∀ {H1 : Hp}, Evl.Ex H H1 → Evl.Ev (tCB (fun xs H Q => ∃ p ys, xs = [.ref p] ∧ (SqL K H p ys ∨ SqT K H p ys) ∧ Q (.int ys.length) H) (tCons (tVar 0) tNil)) (start n_goods_of [.ref a]) H1 (.int (ws.length : Int)) := fun {H1} e => by
      rw [← List.length_map (f := V.str)]
      rcases sqs_ex e hS with h | h
      · exact Evl.ev_cb (Evl.ea_cons (Evl.ev_var rfl) Evl.ea_nil) (rc_lenL h)
      · exact Evl.ev_cb (Evl.ea_cons (Evl.ev_var rfl) Evl.ea_nil) (rc_lenT h)
    refine Evl.q_when (b := !(decide ((1 : Int) ≤ (ws.length : Int)) && decide ((ws.length : Int) ≤ 5))) (Evl.et_not (Evl.et_test (ev_chain Evl.ev_c (len (Evl.Ex.refl H)) Evl.rv_I0 (fun _ => Evl.ev_c) (fun _ => Evl.rv_I0)))) (fun hb H1 e1 => ?_) (fun hb H1 e1 => ?_)
    · have hc : gres ws = .cnt := by
        unfold gres
        rw [if_pos]
        simp at hb
        omega
      refine Evl.ea_cons (len e1) Evl.ea_nil H1 (Evl.Ex.refl _) _ fun H2 e2 => ?_
      have := hQ H2 (e1.trans e2)
      rw [goodsAt, hc] at this
      exact mk1_at this
    · have hin : 1 ≤ ws.length ∧ ws.length ≤ 5 := by
        simp at hb
        omega
      refine q_forEn (xs := ws.map V.str) (Evl.ev_var rfl) (sqs_ex e1 hS) (fun i σ' H' => ∃ a1 a2, σ' = [some (.ref a), a1, a2] ∧ Evl.Ex H1 H' ∧ gres ws = scan (ws.take i) (ws.drop i)) (fun H2 e2 => ⟨_, _, rfl, e2, gres_in hin.1 hin.2⟩) (fun i σ' H' ⟨_, _, _, e, _⟩ => e)
        (fun i x σ' H' T hx ⟨a1, a2, es, ei, hg⟩ nT => ?_) (fun σ' H' ⟨a1, a2, es, ei, hg⟩ => ?_)
      · subst es
        rw [List.getElem?_map] at hx
        obtain ⟨s, hs, rfl⟩ := Option.map_eq_some_iff.mp hx
        have hst := hT s (List.mem_of_getElem? hs)
        rw [scan_step hs] at hg
        have eT := Evl.Ex.new (o := HO.tup [.int (i : Nat), .str s]) nT
        refine Evl.q_when (b := !vn s) (Evl.et_not (Evl.et_B (Evl.ev_call (z := .bl (vn s)) (Evl.ea_cons (Evl.ev_var rfl) Evl.ea_nil) fun H2 e2 Q q E => ⟨s, rfl, hst.1, hst.2, fun H3 e3 => q H3 e3⟩))) (fun hb H2 e2 => ?_) (fun hb H2 e2 => ?_)
        · refine Evl.ea_cons (Evl.ev_var rfl) Evl.ea_nil H2 (Evl.Ex.refl _) _ fun H3 e3 => ?_
          rw [if_pos (by simpa using hb)] at hg
          have := hQ H3 ((((e1.trans ei).trans eT).trans e2).trans e3)
          rw [goodsAt, hg] at this
          exact mk1_at this
        · rw [if_neg (by simpa using hb)] at hg
          have e02 := ((e1.trans ei).trans eT).trans e2
          refine Evl.s_when (b := decide (s ∈ ws.take i)) (Evl.et_test (Evl.ev_is (ev_inS (Evl.ev_var rfl) (es_sl (Evl.ev_var rfl) Evl.eo_none (Evl.eo_some (Evl.ev_var rfl)) (sqs_ex e02 hS)) rfl ?_) ?_)) (fun hb H3 e3 => ?_) (fun hb H3 e3 => ?_)
          · rw [cutV_to, ← List.map_take]
            exact flat_strs _
          · rw [cutV_to, ← List.map_take, inV_strs]
            rfl
          · refine Evl.ea_cons (Evl.ev_var rfl) Evl.ea_nil H3 (Evl.Ex.refl _) _ fun H4 e4 => ?_
            rw [if_pos (of_decide_eq_true hb)] at hg
            have := hQ H4 ((e02.trans e3).trans e4)
            rw [goodsAt, hg] at this
            exact mk1_at this
          · rw [if_neg (of_decide_eq_false hb)] at hg
            exact ⟨_, _, rfl, ((ei.trans eT).trans e2).trans e3, hg⟩
      · subst es
        rw [List.length_map, scan_end] at hg
        have e01 := e1.trans ei
        refine ⟨.ref a, rfl, ⟨Str, a, ws, V.str, PyData.str, rfl, sqs_ex e01 hS, fun b _ => .str b, ?_, ?_, fun b _ => by simp [PyData.depth], fun p hp => ?_⟩⟩
        · exact PySem.W.AllAlike.of fun _ _ => rfl
        · exact PySem.W.Sortable.others fun _ => ⟨(by intro h; cases h), (by intro _ h; cases h)⟩
        · refine ⟨p, _, rfl, .inl ⟨Evl.sq_of upd_same, fun l hl => ?_⟩⟩
          have := hQ _ (e01.trans (Evl.Ex.new (o := .lst ((srt ws).map V.str)) hp))
          rw [goodsAt, hg] at this
          exact this l hl
end
end Lw

namespace Lw
open PySem PySem.Spec PyProof.Rows L2
abbrev s_law_order : Stmt := topS 42
abbrev n_law_order : List Str := ["_law_state", "_law_items", "_law_left", "_law_told_here", "_law_k"]
theorem sc_law_order : FnScope n_law_order ["_law_state", "_law_items"] (defScope s_law_order) := ⟨rfl, rfl, rfl, by decide +kernel, rfl, by decide +kernel, by decide +kernel⟩
section
variable {P : Program} {w : World} {K : PySem.W.Frag} {mg : Str → Option Value} {base : Heap}
theorem perm_pop {α : Type} {l : List α} {i : Nat} (h : i < l.length) : ([l[i]] ++ l.eraseIdx i).Perm l := by
  rw [List.eraseIdx_eq_take_drop_succ]
  have e : l.take i ++ l[i] :: l.drop (i + 1) = l := by rw [← List.drop_eq_getElem_cons h, List.take_append_drop]
  refine List.Perm.trans ?_ (List.Perm.of_eq e)
  rw [List.singleton_append]
  exact List.perm_middle.symm
/-- the items in some order, in a new list -/
def sp_order (K : PySem.W.Frag) : Sp := fun vs H Q _ => ∃ (st l : Addr) (n : Nat) (xs : List V), vs = [.ref st, .ref l] ∧ DS H st n ∧ n ≤ 900000000 ∧ SqL K H l xs ∧ xs.length ≤ 1000 ∧
  ∀ (p : Addr) (ys : List V) (H' : Hp), DS H' st (n + xs.length) → Kp st H H' → (∀ b o, Ap H st b o → b ≠ p) → Ap H' st p (.lst ys) → ys.Perm xs → Q (.ref p) H'
theorem ok_order {f f2 : Addr} {fd fd2 : FuncData} (F : Fun K "_law_order" "_law_order" s_law_order f fd)
    (F_law_draw : Fun K "_law_draw" "_law_draw" s_law_draw f2 fd2) (b_law_draw : Binds K fd2 ["_law_state", "_law_size"] []) (g_law_draw : mg "_law_draw" = some (.ref f2)) (G_law_draw : FnOk P w K mg base CX0 1 f2 fd2 ["_law_state", "_law_size"] sp_draw)
    (m_range : mg "range" = none) (m_len : mg "len" = none) (m_list : mg "list" = none) : FnOk P w K mg base CX0 2 f fd ["_law_state", "_law_items"] (sp_order K) := by
  refine F.ok sc_law_order (fun vs H Q E h => ?_) (fun cdv A outer s H vs Q E hr h => ?_)
  · obtain ⟨st, l, n, xs, rfl, _⟩ := h
    rfl
  · obtain ⟨st, l, n, xs, rfl, D, hn, hS, hL, hQ⟩ := h
    refine ⟨_, (pss_cons (ps_set (i := 2) sc_law_order.nd rfl (by first | exact .inl rfl | exact .inr rfl) (pe_callTy call_list_of (by rfl) m_list (by decide +kernel) (pa_cons (pv 1) pa_nil)))
  (pss_cons (ps_set (i := 3) sc_law_order.nd rfl (by first | exact .inl rfl | exact .inr rfl) (pe_lst pa_nil))
  (pss_cons (ps_for PassesOwn.never rfl  (pi_range1 (by rfl) m_range (pa_cons (pe_callB call_len_seq (by rfl) m_len PySem.boot_len (pa_cons (pv 2) pa_nil)) pa_nil)) (pg_name (i := 4) sc_law_order.nd rfl (by first | exact .inl rfl | exact .inr rfl))
   (pss_one (ps_expr (pe_bm PySem.F.plainAttrs_list PySem.F.slot_list_append PySem.F.type_list_append mt_append (pv 3) (pa_cons (pe_bm PySem.F.plainAttrs_list PySem.F.slot_list_pop PySem.F.type_list_pop mt_popAt (pv 2) (pa_cons (pe_call G_law_draw (hr.mono (by decide)) (by rfl) g_law_draw F_law_draw.kp b_law_draw .nil pass0 (pa_cons (pv 0) (pa_cons (pe_callB call_len_seq (by rfl) m_len PySem.boot_len (pa_cons (pv 2) pa_nil)) pa_nil))) pa_nil)) pa_nil)))))
  (pss_one (ps_ret (pv 3)))))), ?_⟩
    refine ⟨.ref l, rfl, l, xs, rfl, .inl hS, fun L nL => ⟨Nat.zero_le _, fun T nT => ?_⟩⟩
    have D2 := (D.new (o := .lst xs) nL).new (o := .lst []) nT
    have neLT : L ≠ T := ne_of_none (upd_same (H := H) (o := .lst xs)) nT
    have aL : Ap (upd (upd H L (.lst xs)) T (.lst [])) st L (.lst xs) := (D.new nL).newK nT _ _ (D.fresh nL)
    have kp0 : Kp st H (upd (upd H L (.lst xs)) T (.lst [])) := (D.newK nL).trans ((D.new nL).newK nT)
    have nT0 : H T = none := Evl.fresh_back (Evl.Ex.new nL) nT
    refine Evl.q_forR1 (n := (xs.length : Int)) (Evl.ea_cons (Evl.ev_cb (Evl.ea_cons (Evl.ev_var rfl) Evl.ea_nil) (rc_lenL (Evl.sq_of aL.1))) Evl.ea_nil) (by omega)
      (fun i σ' H' => ∃ a4 ls ts, σ' = [some (.ref st), some (.ref l), some (.ref L), some (.ref T), a4] ∧ DS H' st (n + i) ∧ Kp st H H' ∧ Ap H' st L (.lst ls) ∧ Ap H' st T (.lst ts) ∧ ls.length + i = xs.length ∧ (ts ++ ls).Perm xs)
      (fun H1 e1 => ⟨none, xs, [], rfl, D2.ex e1, kp0.trans (D2.exK e1), D2.exK e1 _ _ aL, D2.exK e1 _ _ ((D.new nL).fresh nT), rfl, List.Perm.refl _⟩) (fun i σ' H' hi ⟨a4, ls, ts, es, Di, ki, al, at_, hl, hp⟩ => ?_) (fun σ' H' ⟨a4, ls, ts, es, Di, ki, al, at_, hl, hp⟩ => ?_)
    · subst es
      have hpos : 0 < ls.length := by omega
      refine ⟨.ref T, rfl, .inl ⟨rfl, ts, Evl.sq_of at_.1⟩, .ref L, rfl, .inl ⟨rfl, ls, Evl.sq_of al.1⟩, .ref st, rfl, .ref L, rfl, L, ls, rfl, .inl (Evl.sq_of al.1), st, (ls.length : Int), n + i, rfl, Di, by omega, by omega, by omega, fun d H1 d0 d1 D1 k1 => ?_⟩
      have al1 := k1 _ _ al
      have at1 := k1 _ _ at_
      obtain ⟨j, hj, hjl⟩ := ixN_some d0 d1
      have hy := List.getElem?_eq_getElem hjl
      have neTL : T ≠ L := neLT.symm
      have D2' := D1.put (u := .lst (ls.eraseIdx j)) al1
      have at2 := Ap.put (u := .lst (ls.eraseIdx j)) D1 al1 at1 neTL
      have al2 := D1.putA (u := .lst (ls.eraseIdx j)) al1
      have hlen : ts.length + ls.length = xs.length := by
        rw [← hp.length_eq, List.length_append]
      refine ⟨L, ls, d, j, ls[j], rfl, rfl, al1.1, by omega, by omega, (ixN_seq hj).1, hy, T, ts, ls[j], rfl, rfl, at2.1, Evl.sz_lt (by omega), ?_⟩
      refine ⟨_, ls.eraseIdx j, ts ++ [ls[j]], rfl, (D2'.put at2).mono (by omega), ?_, Ap.put D2' at2 al2 neLT, D2'.putA at2, ?_, ?_⟩
      · exact Kp.put (Kp.put (ki.trans k1) nL D1 al1) nT0 D2' at2
      · rw [List.length_eraseIdx_of_lt hjl]
        omega
      · refine List.Perm.trans ?_ hp
        rw [List.append_assoc]
        exact List.Perm.append_left ts (perm_pop hjl)
    · subst es
      have : ls = [] := List.length_eq_zero_iff.mp (by omega)
      subst this
      rw [List.append_nil] at hp
      exact ⟨.ref T, rfl, hQ T ts H' Di ki (fun b o hb => ne_of_none hb.1 nT0) at_ hp⟩
end
end Lw

namespace Lw
open PySem PySem.Spec PyProof.Rows L2
abbrev s_all_bundles : Stmt := topS 19
abbrev n_all_bundles : List Str := ["goods", "bundles", "layer", "bundle", "good"]
theorem sc_all_bundles : FnScope n_all_bundles ["goods"] (defScope s_all_bundles) := ⟨rfl, rfl, rfl, by decide +kernel, rfl, by decide +kernel, by decide +kernel⟩
section
variable {P : Program} {w : World} {K : PySem.W.Frag} {mg : Str → Option Value} {base : Heap}
def sp_allb (K : PySem.W.Frag) : Sp := fun vs H Q _ => ∃ (a : Addr) (ws : List Str), vs = [.ref a] ∧ SqT K H a (ws.map V.str) ∧ Inc ws ∧ ws.length ≤ 5 ∧ ∀ p us H2, Evl.Ex H H2 → H p = none → H2 p = some (.lst us) → Bags H2 us ((allI ws.length).map (bagI ws)) → Q (.ref p) H2
theorem ok_allb {f : Addr} {fd : FuncData} {k : Nat} (F : Fun K "all_bundles" "all_bundles" s_all_bundles f fd) : FnOk P w K mg base CX0 (k + 1) f fd ["goods"] (sp_allb K) := by
  refine F.ok sc_all_bundles (fun vs H Q E h => ?_) (fun cdv A outer s H vs Q E hr h => ?_)
  · obtain ⟨a, ws, rfl, _⟩ := h
    rfl
  · obtain ⟨a, ws, rfl, hS, hI, hL, hQ⟩ := h
    refine ⟨_, (pss_cons (ps_set (i := 1) sc_all_bundles.nd rfl (by first | exact .inl rfl | exact .inr rfl) (pe_lst pa_nil))
  (pss_cons (ps_set (i := 2) sc_all_bundles.nd rfl (by first | exact .inl rfl | exact .inr rfl) (pe_lst (pa_cons (pe_tup pa_nil) pa_nil)))
  (pss_cons (ps_while PassesOwn.never (pt_truth (pv 2) (by intro _; rfl))
   (pss_cons (ps_expr (pe_bm PySem.F.plainAttrs_list PySem.F.slot_list_extend PySem.F.type_list_extend mt_extend (pv 1) (pa_cons (pv 2) pa_nil)))
  (pss_one (ps_setLc2 (i := 2) (own := [("bundle", 3), ("good", 4)]) (vs1 := [4]) (by rfl) sc_all_bundles.nd rfl rfl (sw_true rfl rfl rfl (by decide +kernel)) (pi_list (pv 2)) (blkOk_by (own := [("bundle", 3), ("good", 4)]) (N := n_all_bundles) (sc := defScope s_all_bundles) (by decide +kernel)) (by decide) (fun _ _ _ _ _ => pg_name (i := 3) sc_all_bundles.nd rfl (by first | exact .inl rfl | exact .inr rfl)) (fun _ _ _ _ _ => pts_nil) (fun _ _ _ _ _ => (k_piT K (pv 0))) (fun _ _ _ _ _ => pg_name (i := 4) sc_all_bundles.nd rfl (by first | exact .inl rfl | exact .inr rfl)) (fun _ _ _ _ _ => (pts_one (PW.pt (pw_or (pt_not (k_truth K (pv 3) (by intro _; rfl))) (pw_or1 (pt_cmpR op_lt_str (pe_ix (k_ixT K) (pv 3) (pe_un un_neg pe_int) (fun _ _ => rfl)) (pv 4) (nomark _))))))) (fun _ _ _ _ _ => (pe_op (k_catA K) (pv 3) (pe_tup (pa_cons (pv 4) pa_nil))))))))
  (pss_one (ps_ret (pv 1)))))), ?_⟩
    have hn : ws.length < 6 := by omega
    refine ⟨Nat.zero_le _, fun B nB => ⟨Nat.zero_le _, fun e ne => ⟨by show 1 ≤ sizeLine; decide, fun L nL => ?_⟩⟩⟩
    have e1 : Evl.Ex H (upd H B (.lst [])) := Evl.Ex.new nB
    have e2 := Evl.Ex.new (o := .tup []) ne
    have e3 := Evl.Ex.new (o := .lst [.ref e]) nL
    have neBL : B ≠ L := ne_of_none (e2 _ _ (upd_same (H := H) (o := .lst []))) nL
    dsimp only [gName]
    refine Evl.q_while (fun m σ' H' => ∃ (k : Nat) (us ls : List V) (L' : Addr), m = 7 - k ∧ k ≤ 6 ∧ σ' = [some (.ref a), some (.ref B), some (.ref L'), none, none] ∧ Evl.Ex H H' ∧ H' B = some (.lst us) ∧ Bags H' us ((flatI ws.length k).map (bagI ws)) ∧ H' L' = some (.lst ls) ∧ Bags H' ls ((layI ws.length k).map (bagI ws)) ∧ B ≠ L') 7 ?_ ?_
    · refine ⟨0, [], [.ref e], L, rfl, by omega, rfl, (e1.trans e2).trans e3, e3 _ _ (e2 _ _ upd_same), trivial, upd_same, ⟨⟨e, rfl, e3 _ _ upd_same⟩, trivial⟩, neBL⟩
    rintro m σ' H' ⟨k, us, ls, L', rfl, hk, rfl, eH, hB, bB, hL', bL, neL⟩
    have hin := lay_in ws.length k hn (by omega)
    obtain ⟨hll, hfl⟩ := lay_len ws.length k hn (by omega)
    have lsl : ls.length = (layI ws.length k).length := by rw [bL.len, List.length_map]
    have usl : us.length = (flatI ws.length k).length := by rw [bB.len, List.length_map]
    refine ⟨!ls.isEmpty, fun H1 e Q q => ⟨.ref L', rfl, !ls.isEmpty, .inl ⟨ls, Evl.sq_of (e _ _ hL'), rfl⟩, q H1 (Evl.Ex.refl _)⟩, fun hb H1 e => ?_, fun hb H1 e => ?_⟩
    · have hk5 : k ≤ 5 := by
        rcases Nat.lt_or_ge k 6 with h | h
        · omega
        · have : k = 6 := by omega
          subst this
          rw [lay_end _ hn] at lsl
          rw [List.length_eq_zero_iff.mp lsl] at hb
          cases hb
      refine ⟨fun σ' H' => ∃ (us ls : List V) (L' : Addr), σ' = [some (.ref a), some (.ref B), some (.ref L'), none, none] ∧ Evl.Ex H H' ∧ H' B = some (.lst us) ∧ Bags H' us ((flatI ws.length (k + 1)).map (bagI ws)) ∧ H' L' = some (.lst ls) ∧ Bags H' ls ((layI ws.length (k + 1)).map (bagI ws)) ∧ B ≠ L',
        fun σ2 H2 ⟨us, ls, L', e1, e2, e3, e4, e5, e6, e7⟩ => ⟨7 - (k + 1), by omega, k + 1, us, ls, L', rfl, by omega, e1, e2, e3, e4, e5, e6, e7⟩, ?_⟩
      have hB1 := e _ _ hB
      have hL1 := e _ _ hL'
      refine ⟨.ref B, rfl, .inl ⟨rfl, us, Evl.sq_of hB1⟩, .ref L', rfl, B, L', us, ls, rfl, rfl, hB1, hL1, Evl.sz_of (by omega), ?_⟩
      have eH2 : Evl.Ex H (upd H1 B (.lst (us ++ ls))) := (eH.trans e).mut nB
      have hL2 : (upd H1 B (.lst (us ++ ls))) L' = some (.lst ls) := (upd_ne (Ne.symm neL)).trans hL1
      have bL2 : Bags (upd H1 B (.lst (us ++ ls))) ls ((layI ws.length k).map (bagI ws)) := (bL.ex e).put hB1
      have bB2 : Bags (upd H1 B (.lst (us ++ ls))) (us ++ ls) ((flatI ws.length (k + 1)).map (bagI ws)) := by
        have : flatI ws.length (k + 1) = flatI ws.length k ++ layI ws.length k := by
          unfold flatI
          rw [List.range_succ, List.flatMap_append]
          simp
        rw [this, List.map_append]
        exact ((bB.ex e).append (bL.ex e)).put hB1
      have hat : ∀ {i : Nat} {x : V} {H3 : Hp}, ls[i]? = some x → Evl.Ex (upd H1 B (.lst (us ++ ls))) H3 → ∃ (b : List Nat) (ax : Addr), (layI ws.length k)[i]? = some b ∧ x = .ref ax ∧ H3 ax = some (.tup ((bagI ws b).map V.str)) ∧ b.length ≤ 5 ∧ ∀ i ∈ b, i < ws.length := fun {i x H3} hx e3 => by
        obtain ⟨c, hc, ax, rfl, hax⟩ := bL2.at hx
        rw [List.getElem?_map] at hc
        obtain ⟨b, hb, rfl⟩ := Option.map_eq_some_iff.mp hc
        obtain ⟨h1, h2⟩ := hin b (List.mem_of_getElem? hb)
        exact ⟨b, ax, hb, rfl, e3 _ _ hax, h1, h2⟩
      have hyt : ∀ {j : Nat} {y : V}, (ws.map V.str)[j]? = some y → j < ws.length ∧ y = .str (fI ws j) := fun {j y} hy => by
        rw [List.getElem?_map] at hy
        obtain ⟨z, hz, rfl⟩ := Option.map_eq_some_iff.mp hy
        rw [fI_at hz]
        exact ⟨(List.getElem?_eq_some_iff.mp hz).1, rfl⟩
      dsimp only [tAsg]
      refine lc2_bags (σ := [some (.ref a), some (.ref B), some (.ref L'), none, none]) (jx := 3) (jy := 4) (vs := [3, 4]) (vs1 := [4]) (a := L') (b := a) (xs := ls) (ys := ws.map V.str) (fun i j => okI ((layI ws.length k).getD i []) j) (fun i j => bagI ws ((layI ws.length k).getD i [] ++ [j])) (fun i j => (datI ws.length (layI ws.length k) i j).map (bagI ws))
        ?_ (Evl.sq_of hL2) (Evl.ex_t eH2 hS) rfl (fun i j => ?_) (fun i hi => ?_) (fun i j hi hj => ?_) (fun _ => rfl) (fun _ _ => rfl) (fun x H3 _ => ?_) (fun i j x y H3 hx hy e3 => ?_) (fun i j x y H3 hx hy e3 ht Q q => ?_) (fun p acc H3 np e3 hp hacc => ?_)
      · exact Evl.ev_var rfl
      · rw [dat_succ, List.map_append]
        congr 1
        split <;> rfl
      · rw [List.length_map, dat_next _ _ _ (by omega)]
      · rw [List.length_map] at hj ⊢
        have h1 := dat_len ws.length (layI ws.length k) i j
        have h2 : ws.length * (layI ws.length k).length ≤ 5 * 32 := Nat.mul_le_mul hL hll
        omega
      · exact Evl.ev_var rfl
      · obtain ⟨b, ax, hb, rfl, hax, hbl, hbi⟩ := hat hx e3
        obtain ⟨hj, rfl⟩ := hyt hy
        have hgd : (layI ws.length k).getD i [] = b := by rw [List.getD_eq_getElem?_getD, hb]; rfl
        rw [hgd]
        show Evl.EvT _ _ _ (b.isEmpty || decide (b.getLastD 0 < j))
        refine Evl.et_or (Evl.et_is (a := !(!((bagI ws b).map V.str).isEmpty)) (Evl.et_not (fun H4 e4 Q q => ⟨.ref ax, rfl, _, .inr (.inl ⟨_, Evl.st_of (e4 _ _ hax), rfl⟩), q H4 (Evl.Ex.refl _)⟩)) ?_) fun hne => ?_
        · rw [Bool.not_not]
          cases b <;> rfl
        · have hne' : b ≠ [] := fun z => by
            rw [z] at hne
            cases hne
          have hlast : b.getLastD 0 < ws.length := by
            rw [List.getLastD_eq_getLast?, List.getLast?_eq_some_getLast hne']
            exact hbi _ (List.getLast_mem hne')
          refine Evl.et_test (Evl.ev_is (Evl.ev_op (Evl.ev_op (Evl.ev_var rfl) (Evl.ev_un Evl.ev_c Evl.ru_neg) (Evl.rv_ixT (Evl.st_of hax) (at_last hne'))) (Evl.ev_var rfl) (fun H4 _ Q q => ⟨_, _, rfl, rfl, q H4 (Evl.Ex.refl _)⟩)) ?_)
          congr 1
          exact decide_eq_decide.mpr (inc_lt hI hlast hj)
      · obtain ⟨b, ax, hb, rfl, hax, hbl, hbi⟩ := hat hx e3
        obtain ⟨hj, rfl⟩ := hyt hy
        have hgd : (layI ws.length k).getD i [] = b := by rw [List.getD_eq_getElem?_getD, hb]; rfl
        rw [hgd] at q
        have hbd : (bagI ws (b ++ [j])).map V.str = (bagI ws b).map V.str ++ [.str (fI ws j)] := by
          unfold bagI
          rw [List.map_append, List.map_append]
          rfl
        refine ⟨.ref ax, rfl, .str (fI ws j), rfl, by show 1 ≤ sizeLine; decide, fun p np => ⟨ax, p, (bagI ws b).map V.str, [.str (fI ws j)], rfl, rfl, Evl.st_of ((Evl.Ex.new np) _ _ hax), Evl.st_of upd_same, ?_, fun h0 => ?_, (fun _ h => nomatch h), fun _ _ r nr => ?_⟩⟩
        · unfold bagI
          simp only [List.length_map, List.length_cons, List.length_nil]
          exact Evl.sz_of (by omega)
        · refine q _ _ (Evl.Ex.new np) ⟨p, rfl, ?_⟩
          rw [hbd, h0]
          exact upd_same
        · refine q _ _ ((Evl.Ex.new np).trans (Evl.Ex.new nr)) ⟨r, rfl, ?_⟩
          rw [hbd]
          exact upd_same
      · rw [lsl, dat_end] at hacc
        refine ⟨us ++ ls, acc, p, rfl, eH2.trans e3, e3 _ _ upd_same, bB2.ex e3, hp, hacc, fun z => ?_⟩
        rw [← z, upd_same] at np
        cases np
    · have h0 : ls = [] := by
        cases ls with
        | nil => rfl
        | cons x r => cases hb
      have hlz : layI ws.length k = [] := List.length_eq_zero_iff.mp (by rw [← lsl, h0]; rfl)
      refine ⟨.ref B, rfl, hQ B us H1 (eH.trans e) nB (e _ _ hB) ?_⟩
      rw [← flat_all ws.length k hn (by omega) hlz]
      exact bB.ex e
end
end Lw

namespace Lw
open PySem PySem.Spec PyProof.Rows L2
theorem any_strs (ss : List Str) (z : Str) : ((ss.map PyData.str).any fun y => PyData.eqv y (.str z)) = decide (z ∈ ss) := by
  induction ss with
  | nil => rfl
  | cons y r ih =>
    rw [List.map_cons, List.any_cons, ih, Bool.eq_iff_iff, Bool.or_eq_true, decide_eq_true_iff, decide_eq_true_iff, List.mem_cons]
    have e := eqv_strs [y] [z]
    simp only [List.map_cons, List.map_nil, PyData.eqv, PyData.eqvAll, Bool.and_true] at e ⊢
    rw [e]
    simp [eq_comm]
def sp_union (K : PySem.W.Frag) : Sp := fun vs H Q _ => ∃ (a b : Addr) (xs ys : List Str), vs = [.ref a, .ref b] ∧ SqT K H a (xs.map V.str) ∧ SqT K H b (ys.map V.str) ∧ xs.length ≤ 5 ∧ ys.length ≤ 5 ∧ ∀ p H', Evl.Ex H H' → H p = none → H' p = some (.tup ((sd (xs ++ ys)).map V.str)) → Q (.ref p) H'
def sp_rest (K : PySem.W.Frag) : Sp := fun vs H Q _ => ∃ (a b : Addr) (xs ys : List Str), vs = [.ref a, .ref b] ∧ SqT K H a (xs.map V.str) ∧ SqT K H b (ys.map V.str) ∧ TxtOk xs ∧ TxtOk ys ∧ xs.length ≤ 5 ∧ ys.length ≤ 5 ∧ ∀ p H', Evl.Ex H H' → H p = none → H' p = some (.tup ((xs.filter fun z => !decide (z ∈ ys)).map V.str)) → Q (.ref p) H'
abbrev s_union : Stmt := topS 21
abbrev n_union : List Str := ["one", "other"]
theorem sc_union : FnScope n_union ["one", "other"] (defScope s_union) := ⟨rfl, rfl, rfl, by decide +kernel, rfl, by decide +kernel, by decide +kernel⟩
abbrev s_rest : Stmt := topS 22
abbrev n_rest : List Str := ["one", "other", "good"]
theorem sc_rest : FnScope n_rest ["one", "other"] (defScope s_rest) := ⟨rfl, rfl, rfl, by decide +kernel, rfl, by decide +kernel, by decide +kernel⟩
section
variable {P : Program} {w : World} {K : PySem.W.Frag} {mg : Str → Option Value} {base : Heap}
theorem ok_union {f : Addr} {fd : FuncData} {k : Nat} (F : Fun K "union" "union" s_union f fd) (m_set : mg "set" = none) (m_sorted : mg "sorted" = none) (m_tuple : mg "tuple" = none) : FnOk P w K mg base CX0 (k + 1) f fd ["one", "other"] (sp_union K) := by
  refine F.ok sc_union (fun vs H Q E h => ?_) (fun cdv A outer s H vs Q E hr h => ?_)
  · obtain ⟨a, b, xs, ys, rfl, _⟩ := h
    rfl
  · obtain ⟨a, b, xs, ys, rfl, hx, hy, lx, ly, hQ⟩ := h
    refine ⟨_, (pss_one (ps_ret (pe_callTy call_tuple_of (by rfl) m_tuple (by decide +kernel) (pa_cons (pe_callB (cr_sortTx rfl hr.units) (by rfl) m_sorted (by decide +kernel) (pa_cons (pe_op op_union (pe_callTy (cr_setTxA rfl) (by rfl) m_set (by decide +kernel) (pa_cons (pv 0) pa_nil)) (pe_callTy (cr_setTxA rfl) (by rfl) m_set (by decide +kernel) (pa_cons (pv 1) pa_nil))) pa_nil)) pa_nil)))), ?_⟩
    exact Evl.s_retU (eu_tupof (el_union (Evl.ev_var rfl) hx (Evl.ev_var rfl) hy lx ly)) fun p H1 np e hp => hQ p H1 e np hp
theorem ok_rest {f : Addr} {fd : FuncData} {k : Nat} (F : Fun K "rest" "rest" s_rest f fd) (m_tuple : mg "tuple" = none) : FnOk P w K mg base CX0 (k + 1) f fd ["one", "other"] (sp_rest K) := by
  refine F.ok sc_rest (fun vs H Q E h => ?_) (fun cdv A outer s H vs Q E hr h => ?_)
  · obtain ⟨a, b, xs, ys, rfl, _⟩ := h
    rfl
  · obtain ⟨a, b, xs, ys, rfl, hx, hy, tx, ty, lx, ly, hQ⟩ := h
    refine ⟨_, (pss_one (ps_ret (pe_callTy call_tuple_of (by rfl) m_tuple (by decide +kernel) (pa_cons (pe_lc (own := [("good", 2)]) (g := gName 2) (by rfl) sc_rest.nd (pi_tup (pv 0)) (blkOk_by (own := [("good", 2)]) (N := n_rest) (sc := defScope s_rest) (by decide +kernel)) (fun _ _ _ _ _ => pg_name (i := 2) sc_rest.nd rfl (by first | exact .inl rfl | exact .inr rfl)) (fun _ _ _ _ _ => (pts_one (pt_cmpR (k_notInD K (room65 hr)) (pv 2) (pv 1) (by with_unfolding_all rfl)))) (fun _ _ _ _ _ => (pv 2))) pa_nil)))), ?_⟩
    have hs : SeqAt.shaped (.list (ys.map PyData.str)) = true := (good_strs fun z hz => (ty z hz).2).shaped (by decide)
    have key : Evl.EvL (tLc (iTup K (tVar 0)) (gName 2) (tTest (tOp (rInDS K true) (tVar 2) (tVar 1))) (tVar 2) [2]) (start n_rest [.ref a, .ref b]) H ((xs.filter fun z => !decide (z ∈ ys)).map V.str) :=
      el_lcT (p := fun z => !decide (z ∈ ys)) (g := V.str) (Evl.ev_var rfl) hx (by omega) (fun _ => rfl) (fun z H1 e1 hz => Evl.et_test (Evl.ev_op (Evl.ev_var rfl) (Evl.ev_var rfl) fun H2 e2 Q q => ⟨.str z, ys.map PyData.str, .str z, .inr (dp_strsT (Evl.ex_t (e1.trans e2) hy)), (good_str (n := 1) (tx z hz).2).shaped (by decide), hs, by
        rw [if_pos rfl, any_strs]
        exact q H2 (Evl.Ex.refl _)⟩)) (fun z H1 e1 hz _ => Evl.ev_var rfl)
    exact Evl.s_retU (eu_tupof key) fun p H1 np e hp => hQ p H1 e np hp
end
end Lw

namespace Lw
open PySem PySem.Spec PyProof.Rows L2
def wholeB (v : V) (low most : Int) : Bool := match v with
  | .int i => decide (low ≤ i) && decide (i ≤ most)
  | _ => false
theorem wholeB_of (v : V) (low most : Int) : wholeB v low most = (isIn v && (!isBl v && wholeB v low most)) := by
  cases v <;> simp [wholeB, isIn, isBl]
def sp_whole3 : Sp := fun vs H Q _ => ∃ (v : V) (low most : Int), vs = [v, .int low, .int most] ∧ AmX H v ∧ ∀ H', Evl.Ex H H' → Q (.bl (wholeB v low most)) H'
def sp_worth : Sp := fun vs H Q _ => ∃ (v : V), vs = [v] ∧ AmX H v ∧ ∀ H', Evl.Ex H H' → Q (.bl (wholeB v 0 1000000)) H'
abbrev s_is_whole : Stmt := topS 26
abbrev n_is_whole : List Str := ["value", "least", "most"]
theorem sc_is_whole : FnScope n_is_whole ["value", "least", "most"] (defScope s_is_whole) := ⟨rfl, rfl, rfl, by decide +kernel, rfl, by decide +kernel, by decide +kernel⟩
abbrev s_is_worth : Stmt := topS 33
abbrev n_is_worth : List Str := ["value"]
theorem sc_is_worth : FnScope n_is_worth ["value"] (defScope s_is_worth) := ⟨rfl, rfl, rfl, by decide +kernel, rfl, by decide +kernel, by decide +kernel⟩
section
variable {P : Program} {w : World} {K : PySem.W.Frag} {mg : Str → Option Value} {base : Heap}
theorem ok_whole3 {f : Addr} {fd : FuncData} {k : Nat} (F : FunD K "is_whole" "is_whole" (defArgs s_is_whole) (defBody s_is_whole) (defScope s_is_whole) [.non] [] f fd) (m_isinstance : mg "isinstance" = none) (m_int : mg "int" = none) (m_bool : mg "bool" = none) : FnOk P w K mg base CX0 (k + 1) f fd ["value", "least", "most"] sp_whole3 := by
  refine F.ok sc_is_whole (fun vs H Q E h => ?_) (fun cdv A outer s H vs Q E hr h => ?_)
  · obtain ⟨v, low, most, rfl, _⟩ := h
    rfl
  · obtain ⟨v, low, most, rfl, hA, hQ⟩ := h
    refine ⟨_, (pss_cons (ps_if (PW.pt (pw_or (pt_val (pe_callB call_isi (by rfl) m_isinstance PyProof.Rows.boot_isinstance (pa_cons (pv 0) (pa_cons (pe_bltn (v := .ty "bool") (by rfl) m_bool (by decide +kernel) rfl) pa_nil)))) (pw_or1 (pt_not (pt_val (pe_callB call_isi (by rfl) m_isinstance PyProof.Rows.boot_isinstance (pa_cons (pv 0) (pa_cons (pe_bltn (v := .ty "int") (by rfl) m_int (by decide +kernel) rfl) pa_nil))))))))
   (pss_one (ps_ret pe_bl))
   pss_nil)
  (pss_one (ps_ret (pe_and (pe_cmpR op_ge (pv 0) (pv 1) (nomark _)) (pe_one (pe_or (pe_cmpR op_isN (pv 2) pe_non (nomark _)) (pe_one (pe_cmpR op_le (pv 0) (pv 2) (nomark _))))))))), ?_⟩
    refine Evl.q_when (b := isBl v || !isIn v) (Evl.et_or (Evl.et_test (Evl.ev_cb (Evl.ea_cons (Evl.ev_var rfl) (Evl.ea_cons Evl.ev_c Evl.ea_nil)) (rc_isB hA))) fun _ => Evl.et_not (Evl.et_test (Evl.ev_cb (Evl.ea_cons (Evl.ev_var rfl) (Evl.ea_cons Evl.ev_c Evl.ea_nil)) (rc_isI hA)))) (fun hb H1 e1 => ?_) (fun hb H1 e1 => ?_)
    · have hw : wholeB v low most = false := by
        rw [wholeB_of]
        cases h1 : isBl v <;> cases h2 : isIn v <;> simp_all
      refine Evl.s_ret (v := .bl false) Evl.ev_c fun H2 e2 => ?_
      have := hQ H2 (e1.trans e2)
      rw [hw] at this
      exact this
    · rw [Bool.or_eq_false_iff] at hb
      obtain ⟨i, rfl⟩ := int_of (v := v) (by simpa using hb.2) hb.1
      refine Evl.s_ret (v := .bl (wholeB (.int i) low most)) (Evl.ev_is (Evl.ev_andV (b := decide (i ≤ most)) (Evl.ev_op (Evl.ev_var rfl) (Evl.ev_var rfl) Evl.rv_I0) fun _ => Evl.ev_is (Evl.ev_orV (a := false) (b := decide (i ≤ most)) (Evl.ev_op (Evl.ev_var rfl) Evl.ev_c fun H2 e2 Q q => ⟨rfl, q H2 (Evl.Ex.refl _)⟩) (fun h => Evl.ev_op (Evl.ev_var rfl) (Evl.ev_var rfl) Evl.rv_I0)) (by simp)) ?_) fun H2 e2 => hQ H2 (e1.trans e2)
      simp [wholeB]
theorem ok_worth {f f2 : Addr} {fd fd2 : FuncData} (F : Fun K "is_worth" "is_worth" s_is_worth f fd) (m_MOST_WORTH : ∃ u, mg "MOST_WORTH" = some u ∧ RelV (.int 1000000) u)
    (F_is_whole : FunD K "is_whole" "is_whole" (defArgs s_is_whole) (defBody s_is_whole) (defScope s_is_whole) [.non] [] f2 fd2) (b_is_whole : Binds K fd2 ["value", "least", "most"] []) (g_is_whole : mg "is_whole" = some (.ref f2)) (G_is_whole : FnOk P w K mg base CX0 1 f2 fd2 ["value", "least", "most"] sp_whole3) : FnOk P w K mg base CX0 2 f fd ["value"] sp_worth := by
  refine F.ok sc_is_worth (fun vs H Q E h => ?_) (fun cdv A outer s H vs Q E hr h => ?_)
  · obtain ⟨v, rfl, _⟩ := h
    rfl
  · obtain ⟨v, rfl, hA, hQ⟩ := h
    refine ⟨_, (pss_one (ps_ret (pe_call G_is_whole (hr.mono (by decide)) (by rfl) g_is_whole F_is_whole.kp b_is_whole .nil pass0 (pa_cons (pv 0) (pa_cons pe_int (pa_cons (pe_gv (by rfl) m_MOST_WORTH) pa_nil)))))), ?_⟩
    exact Evl.s_ret (v := .bl (wholeB v 0 1000000)) (Evl.ev_call (z := .bl (wholeB v 0 1000000)) (Evl.ea_cons (Evl.ev_var rfl) (Evl.ea_cons Evl.ev_c (Evl.ea_cons Evl.ev_c Evl.ea_nil))) fun H4 e4 Q q E => ⟨_, _, _, rfl, hA.ex e4, fun H5 e5 => q H5 e5⟩) hQ
end
end Lw

namespace Lw
open PySem PySem.Spec PyProof.Rows L2
def toI (v : V) : Int := match v with
  | .int i => i
  | _ => 0
def badW (us : List V) : Option V := us.find? fun v => !wholeB v 0 1000000
/-- what becomes of the numbers of a table -/
def worthsAt (CB CW CR : Addr) (ws : List Str) (us : List V) (H : Hp) (Q : VK) (E : XK) : Prop :=
  if us.length + 1 = (allI ws.length).length then
    match badW us with
    | some v => ∀ H1 d, Evl.Ex H H1 → H1 d = some (.xd [("worth", v)]) → E (.ref CW) (some d) H1
    | none => match fallI ws.length (us.map toI) (allI ws.length) with
      | some (b, j) => ∀ H1 d t, Evl.Ex H H1 → H1 t = some (.tup ((bagI ws b).map V.str)) → H1 d = some (.xd [("name", .str (fI ws j)), ("value", .ref t)]) → E (.ref CR) (some d) H1
      | none => ∀ q H1, Evl.Ex H H1 → H q = none → H1 q = some (dictI ws (us.map toI)) → Q (.ref q) H1
  else ∀ H1 d, Evl.Ex H H1 → H1 d = some (.xd [("count", .int (us.length : Int))]) → E (.ref CB) (some d) H1
def sp_worths (K : PySem.W.Frag) (CB CW CR : Addr) : Sp := fun vs H Q E => ∃ (g p : Addr) (ws : List Str) (us : List V), vs = [.ref g, .ref p] ∧ SqT K H g (ws.map V.str) ∧ Inc ws ∧ TxtOk ws ∧ ws.length ≤ 5 ∧ SqL K H p us ∧ us.length ≤ 1000 ∧ (∀ v ∈ us, AmX H v) ∧ worthsAt CB CW CR ws us H Q E
theorem badW_at {us : List V} {i : Nat} {v : V} (h : us[i]? = some v) : badW (us.drop i) = if wholeB v 0 1000000 = true then badW (us.drop (i + 1)) else some v := by
  rw [List.drop_eq_getElem_cons (List.getElem?_eq_some_iff.mp h).1, (List.getElem?_eq_some_iff.mp h).2]
  unfold badW
  by_cases hw : wholeB v 0 1000000 = true
  · rw [List.find?_cons_of_neg (by simpa using hw), if_pos hw]
  · rw [List.find?_cons_of_pos (by simpa using hw), if_neg hw]
theorem badW_ints {us : List V} (h : badW us = none) : us = (us.map toI).map V.int := by
  rw [List.map_map]
  refine (List.map_id us).symm.trans (List.map_congr_left fun v hv => ?_)
  have := List.find?_eq_none.mp h v hv
  cases v <;> simp [wholeB] at this ⊢
  rfl
abbrev s_iBadWorth : Stmt := inClass (topS 7) 0
abbrev n_iBadWorth : List Str := ["self", "worth"]
theorem sc_iBadWorth : FnScope n_iBadWorth ["self", "worth"] (defScope s_iBadWorth) := ⟨rfl, rfl, rfl, by decide +kernel, rfl, by decide +kernel, by decide +kernel⟩
theorem ok_iBadWorth {P : Program} {w : World} {K : PySem.W.Frag} {mg : Str → Option Value} {base : Heap} {f : Addr} {fd : FuncData} {C : Addr} (F : Fun K "__init__" "BadWorth.__init__" s_iBadWorth f fd) (O : OexC K C) (no : PySem.W.findIn K (.ref C) "worth" = some none) : FnOk P w K mg base CX0 1 f fd ["self", "worth"] (sp_init1 K C "worth") := by
  refine F.ok sc_iBadWorth (fun vs H Q E h => ?_) (fun cdv A outer s H vs Q E hr h => ⟨_, pss_one (ps_ost (pv 0) (pv 1)), ?_⟩)
  · obtain ⟨a, y, rfl, _⟩ := h
    rfl
  · obtain ⟨a, y, rfl, ha, hQ⟩ := h
    exact ⟨y, rfl, .ref a, rfl, a, C, rfl, O, no, .inl ⟨ha, hQ⟩⟩
abbrev s_iNotRising : Stmt := inClass (topS 8) 0
abbrev n_iNotRising : List Str := ["self", "value", "name"]
theorem sc_iNotRising : FnScope n_iNotRising ["self", "value", "name"] (defScope s_iNotRising) := ⟨rfl, rfl, rfl, by decide +kernel, rfl, by decide +kernel, by decide +kernel⟩
theorem ok_iNotRising {P : Program} {w : World} {K : PySem.W.Frag} {mg : Str → Option Value} {base : Heap} {f : Addr} {fd : FuncData} {C : Addr} (F : Fun K "__init__" "NotRising.__init__" s_iNotRising f fd) (O : OexC K C) (no : PySem.W.findIn K (.ref C) "value" = some none) (no2 : PySem.W.findIn K (.ref C) "name" = some none) : FnOk P w K mg base CX0 1 f fd ["self", "value", "name"] (sp_init2 K C "value" "name") := by
  refine F.ok sc_iNotRising (fun vs H Q E h => ?_) (fun cdv A outer s H vs Q E hr h => ⟨_, pss_cons (ps_ost (pv 0) (pv 1)) (pss_one (ps_ost (pv 0) (pv 2))), ?_⟩)
  · obtain ⟨a, y, z, rfl, _⟩ := h
    rfl
  · obtain ⟨a, y, z, rfl, ha, hQ⟩ := h
    exact ⟨y, rfl, .ref a, rfl, a, C, rfl, O, no, .inl ⟨ha, fun dx nd ne => ⟨z, rfl, .ref a, rfl, a, C, rfl, O, no2, .inr ⟨dx, _, upd_same, (upd_ne ne).trans upd_same, by show 1 ≤ 900; decide, hQ dx nd ne⟩⟩⟩⟩
abbrev s_worths_of : Stmt := topS 32
abbrev n_worths_of : List Str := ["goods", "numbers", "bundles", "number", "worths", "bundle", "good"]
theorem sc_worths_of : FnScope n_worths_of ["goods", "numbers"] (defScope s_worths_of) := ⟨rfl, rfl, rfl, by decide +kernel, rfl, by decide +kernel, by decide +kernel⟩
section
variable {P : Program} {w : World} {K : PySem.W.Frag} {mg : Str → Option Value} {base : Heap}
theorem ok_worths {f CB CW CR fB fW fR f2 f3 f4 f5 : Addr} {fd fdB fdW fdR fd2 fd3 fd4 fd5 : FuncData} (F : Fun K "worths_of" "worths_of" s_worths_of f fd)
    (EB : ErC P w K mg base "BadCount" "count" CB fB fdB) (EW : ErC P w K mg base "BadWorth" "worth" CW fW fdW) (ER : ErC2 P w K mg base "NotRising" "value" "name" CR fR fdR)
    (F_all_bundles : Fun K "all_bundles" "all_bundles" s_all_bundles f2 fd2) (b_all_bundles : Binds K fd2 ["goods"] []) (g_all_bundles : mg "all_bundles" = some (.ref f2)) (G_all_bundles : FnOk P w K mg base CX0 1 f2 fd2 ["goods"] (sp_allb K))
    (F_is_worth : Fun K "is_worth" "is_worth" s_is_worth f3 fd3) (b_is_worth : Binds K fd3 ["value"] []) (g_is_worth : mg "is_worth" = some (.ref f3)) (G_is_worth : FnOk P w K mg base CX0 2 f3 fd3 ["value"] sp_worth)
    (F_rest : Fun K "rest" "rest" s_rest f4 fd4) (b_rest : Binds K fd4 ["one", "other"] []) (g_rest : mg "rest" = some (.ref f4)) (G_rest : FnOk P w K mg base CX0 1 f4 fd4 ["one", "other"] (sp_rest K))
    (F_union : Fun K "union" "union" s_union f5 fd5) (b_union : Binds K fd5 ["one", "other"] []) (g_union : mg "union" = some (.ref f5)) (G_union : FnOk P w K mg base CX0 1 f5 fd5 ["one", "other"] (sp_union K))
    (m_len : mg "len" = none) (m_dict : mg "dict" = none) (m_zip : mg "zip" = none) : FnOk P w K mg base (L2.CX P w) 3 f fd ["goods", "numbers"] (sp_worths K CB CW CR) := by
  refine F.okX sc_worths_of (fun vs H Q E h => ?_) (fun cdv A outer s H vs Q E hr h => ?_)
  · obtain ⟨g, p, ws, us, rfl, _⟩ := h
    rfl
  · obtain ⟨g, p, ws, us, rfl, hS, hI, hT, hL, hP, hu, hA, hQ⟩ := h
    have O_BadCount := EB.O
    have i_BadCount := EB.i
    have t_BadCount := EB.t
    have G_iBadCount := EB.G
    have b_iBadCount := EB.b
    have g_BadCount := EB.g
    have O_BadWorth := EW.O
    have i_BadWorth := EW.i
    have t_BadWorth := EW.t
    have G_iBadWorth := EW.G
    have b_iBadWorth := EW.b
    have g_BadWorth := EW.g
    have O_NotRising := ER.O
    have i_NotRising := ER.i
    have t_NotRising := ER.t
    have G_iNotRising := ER.G
    have b_iNotRising := ER.b
    have g_NotRising := ER.g
    refine ⟨_, (pss_cons (ps_set (i := 2) sc_worths_of.nd rfl (by first | exact .inl rfl | exact .inr rfl) (pe_call G_all_bundles (hr.mono (by decide)) (by rfl) g_all_bundles F_all_bundles.kp b_all_bundles .nil pass0 (pa_cons (pv 0) pa_nil)))
  (pss_cons (ps_if (pt_cmpR op_ne (pe_callB call_len_seq (by rfl) m_len PySem.boot_len (pa_cons (pv 1) pa_nil)) (pe_op op_sub (pe_callB call_len_seq (by rfl) m_len PySem.boot_len (pa_cons (pv 2) pa_nil)) pe_int) (nomark _))
   (pss_one (ps_raise rfl (takes_of rfl rfl rfl rfl) (pmk_oex O_BadCount i_BadCount t_BadCount G_iBadCount (hr.mono (by decide)) b_iBadCount .nil pass0 (by rfl) g_BadCount (pa_cons (pe_callB call_len_seq (by rfl) m_len PySem.boot_len (pa_cons (pv 1) pa_nil)) pa_nil))))
   pss_nil)
  (pss_cons (ps_for (passes_of rfl) rfl  (pi_list (pv 1)) (pg_name (i := 3) sc_worths_of.nd rfl (by first | exact .inl rfl | exact .inr rfl))
   (pss_one (ps_if (pt_not (pt_val (pe_call G_is_worth (hr.mono (by decide)) (by rfl) g_is_worth F_is_worth.kp b_is_worth .nil pass0 (pa_cons (pv 3) pa_nil))))
   (pss_one (ps_raise rfl (takes_of rfl rfl rfl rfl) (pmk_oex O_BadWorth i_BadWorth t_BadWorth G_iBadWorth (hr.mono (by decide)) b_iBadWorth .nil pass0 (by rfl) g_BadWorth (pa_cons (pv 3) pa_nil))))
   pss_nil)))
  (pss_cons (ps_set (i := 4) sc_worths_of.nd rfl (by first | exact .inl rfl | exact .inr rfl) (pe_dzip rfl (Nat.lt_of_le_of_lt (Nat.add_le_add_left (show 9 ≤ 65 by decide) _) (room65 hr)) (by rfl) m_dict (by rfl) m_zip (pa_cons (pv 2) (pa_cons (pe_lst (pa_cons pe_int (StX.pa_star (pv 1) pa_nil))) pa_nil))))
  (pss_cons (ps_for (passes_of rfl) rfl  (pi_list (pv 2)) (pg_name (i := 5) sc_worths_of.nd rfl (by first | exact .inl rfl | exact .inr rfl))
   (pss_one (ps_for (passes_of rfl) rfl  (pi_tup (pe_call G_rest (hr.mono (by decide)) (by rfl) g_rest F_rest.kp b_rest .nil pass0 (pa_cons (pv 0) (pa_cons (pv 5) pa_nil)))) (pg_name (i := 6) sc_worths_of.nd rfl (by first | exact .inl rfl | exact .inr rfl))
   (pss_one (ps_if (pt_cmpR op_lt (pe_dget (hu_of hr) (pv 4) (pe_call G_union (hr.mono (by decide)) (by rfl) g_union F_union.kp b_union .nil pass0 (pa_cons (pv 5) (pa_cons (pe_tup (pa_cons (pv 6) pa_nil)) pa_nil))) (fun _ _ => rfl)) (pe_dget (hu_of hr) (pv 4) (pv 5) (fun _ _ => rfl)) (nomark _))
   (pss_one (ps_raise rfl (takes_of rfl rfl rfl rfl) (pmk_oex O_NotRising i_NotRising t_NotRising G_iNotRising (hr.mono (by decide)) b_iNotRising .nil pass0 (by rfl) g_NotRising (pa_cons (pv 5) (pa_cons (pv 6) pa_nil)))))
   pss_nil)))))
  (pss_one (ps_ret (pv 4)))))))), ?_⟩
    refine ⟨.ref g, rfl, g, ws, rfl, hS, hI, hL, fun B ub H1 e1 nB hB bB => ?_⟩
    have hn : ws.length < 6 := by omega
    have lub : ub.length = (allI ws.length).length := by rw [bB.len, List.length_map]
    obtain ⟨l1, l32⟩ := all_len ws.length hn
    dsimp only [gName]
    refine Evl.q_when (b := !decide (us.length + 1 = (allI ws.length).length)) (Evl.et_test (Evl.ev_is (Evl.ev_op (Evl.ev_cb (Evl.ea_cons (Evl.ev_var rfl) Evl.ea_nil) (rc_lenL (Evl.ex_l e1 hP))) (Evl.ev_op (Evl.ev_cb (Evl.ea_cons (Evl.ev_var rfl) Evl.ea_nil) (rc_lenL (Evl.sq_of hB))) Evl.ev_c Evl.rv_I0) (Evl.rv_ne rfl)) ?_)) (fun hb H2 e2 => ?_) (fun hb H2 e2 => ?_)
    · rw [lub]
      congr 2
      rw [decide_eq_decide]
      simp only [V.int.injEq]
      omega
    · have hc : us.length + 1 ≠ (allI ws.length).length := by simpa using hb
      unfold worthsAt at hQ
      rw [if_neg hc] at hQ
      refine Evl.ea_cons (Evl.ev_cb (Evl.ea_cons (Evl.ev_var rfl) Evl.ea_nil) (rc_lenL (Evl.ex_l (e1.trans e2) hP))) Evl.ea_nil H2 (Evl.Ex.refl _) _ fun H3 e3 => ?_
      exact mk1_at fun d nd => hQ _ d (((e1.trans e2).trans e3).trans (Evl.Ex.new nd)) upd_same
    · have hc : us.length + 1 = (allI ws.length).length := by simpa using hb
      unfold worthsAt at hQ
      rw [if_pos hc] at hQ
      have eH2 := e1.trans e2
      refine Evl.q_forL (xs := us) (Evl.ev_var rfl) (Evl.ex_l eH2 hP) (fun i σ' H' => ∃ a3, σ' = [some (.ref g), some (.ref p), some (.ref B), a3, none, none, none] ∧ Evl.Ex H2 H' ∧ badW us = badW (us.drop i)) (fun H3 e3 => ⟨none, rfl, e3, rfl⟩) (fun i σ' H' _ ⟨_, _, e, _⟩ => Evl.ex_l (eH2.trans e) hP) (fun i y σ' H' hy ⟨a3, es, ei, hbw⟩ => ?_) (fun σ' H' ⟨a3, es, ei, hbw⟩ => ?_)
      · subst es
        have hAy : AmX H' y := (hA y (List.mem_of_getElem? hy)).ex (eH2.trans ei)
        rw [badW_at hy] at hbw
        dsimp only [gName, List.set]
        refine Evl.s_when (b := !wholeB y 0 1000000) (Evl.et_not (Evl.et_B (Evl.ev_call (z := .bl (wholeB y 0 1000000)) (Evl.ea_cons (Evl.ev_var rfl) Evl.ea_nil) fun H4 e4 Q q E => ⟨_, rfl, hAy.ex e4, fun H5 e5 => q H5 e5⟩))) (fun hb2 H4 e4 => ?_) (fun hb2 H4 e4 => ?_)
        · rw [if_neg (by simpa using hb2)] at hbw
          rw [hbw] at hQ
          refine Evl.ea_cons (Evl.ev_var rfl) Evl.ea_nil H4 (Evl.Ex.refl _) _ fun H5 e5 => ?_
          exact mk1_at fun d nd => hQ _ d ((((eH2.trans ei).trans e4).trans e5).trans (Evl.Ex.new nd)) upd_same
        · rw [if_pos (by simpa using hb2)] at hbw
          exact ⟨_, rfl, ei.trans e4, hbw⟩
      · subst es
        rw [List.drop_length] at hbw
        have hbw : badW us = none := hbw
        rw [hbw] at hQ
        have e3 := eH2.trans ei
        have hB3 := ei _ _ (e2 _ _ hB)
        have bB3 := bB.ex (e2.trans ei)
        clear e1 e2 eH2 ei hA hB bB
        have hP3 := Evl.ex_l e3 hP
        have hz : (us.map toI).length + 1 = (allI ws.length).length := by rw [List.length_map]; exact hc
        refine ⟨.ref B, rfl, .ref p, rfl, p, us, rfl, .inr hP3, ?_, fun L nL => ?_⟩
        · exact Evl.sz_of (by simp; omega)
        have eL : Evl.Ex H' (upd H' L (.lst (V.int 0 :: (us ++ [])))) := Evl.Ex.new nL
        refine ⟨B, L, ub, .int 0 :: us, keysI ws, rfl, Evl.sq_of (eL _ _ hB3), ?_, ?_, ?_, ?_, keysI_nodup hI hn, fun i k hk => ?_, fun D nD => ?_⟩
        · refine Evl.sq_of (upd_same.trans ?_)
          rw [List.append_nil]
        · rw [lub]
          unfold keysI
          rw [List.length_map]
        · unfold keysI
          rw [List.length_map, List.length_cons, hc]
        · unfold keysI
          rw [List.length_map]
          omega
        · unfold keysI at hk
          rw [List.getElem?_map] at hk
          obtain ⟨b, hb, rfl⟩ := Option.map_eq_some_iff.mp hk
          rw [keyI_V]
          exact bags_key (bB3.ex eL) (by rw [List.getElem?_map, hb]; rfl)
        have e4 := (e3.trans eL).trans (Evl.Ex.new (o := .dT ((keysI ws).zip (.int 0 :: us))) nD)
        have hD : (upd (upd H' L (.lst (V.int 0 :: (us ++ [])))) D (.dT ((keysI ws).zip (.int 0 :: us)))) D = some (dictI ws (us.map toI)) := by
          rw [upd_same]
          unfold dictI
          rw [List.map_cons, ← badW_ints hbw]
        have nDH : H D = none := Evl.fresh_back (e3.trans eL) nD
        have hB4 := (eL.trans (Evl.Ex.new (o := .dT ((keysI ws).zip (.int 0 :: us))) nD)) _ _ hB3
        have bB4 := bB3.ex (eL.trans (Evl.Ex.new (o := .dT ((keysI ws).zip (.int 0 :: us))) nD))
        dsimp only [gName, List.set]
        clear nD eL hP3 hB3 bB3
        revert e4 hD hB4 bB4
        generalize upd (upd H' L (.lst (V.int 0 :: (us ++ [])))) D (.dT ((keysI ws).zip (.int 0 :: us))) = H4
        intro e4 hD hB4 bB4
        clear nL e3
        generalize us.map toI = zs at hQ hz hD
        refine Evl.q_forL (xs := ub) (Evl.ev_var rfl) (Evl.sq_of hB4) (fun i σ' H' => ∃ a5 a6, σ' = [some (.ref g), some (.ref p), some (.ref B), a3, some (.ref D), a5, a6] ∧ Evl.Ex H4 H' ∧ fallI ws.length zs (allI ws.length) = fallI ws.length zs ((allI ws.length).drop i)) (fun H3 e3 => ⟨none, none, rfl, e3, rfl⟩) (fun i σ' H' _ ⟨_, _, _, e, _⟩ => Evl.sq_of (e _ _ hB4)) (fun i y σ' H' hy ⟨a5, a6, es, ei, hf⟩ => ?_) (fun σ' H' ⟨a5, a6, es, ei, hf⟩ => ?_)
        · subst es
          obtain ⟨c, hcb, ax, rfl, hax⟩ := (bB4.ex ei).at hy
          rw [List.getElem?_map] at hcb
          obtain ⟨b, hb, rfl⟩ := Option.map_eq_some_iff.mp hcb
          have hbm := List.mem_of_getElem? hb
          obtain ⟨bl, bi⟩ := all_in ws.length hn b hbm
          have hTb : TxtOk (bagI ws b) := fun z hz => by
            obtain ⟨i, hi, rfl⟩ := List.mem_map.mp hz
            exact hT _ (by rw [ws_eq ws]; exact List.mem_map.mpr ⟨i, List.mem_range.mpr (bi i hi), by rw [← ws_eq ws]⟩)
          rw [fall_drop hb] at hf
          dsimp only [gName, List.set]
          refine ⟨.ref g, rfl, .ref ax, rfl, g, ax, ws, bagI ws b, rfl, Evl.ex_t (e4.trans ei) hS, Evl.st_of hax, hT, hTb, hL, by unfold bagI; rw [List.length_map]; exact bl, fun r H5 e5 nr hr5 => ⟨r, rfl, ⟨_, Evl.st_of hr5⟩, ?_⟩⟩
          rw [rest_eq hI bi] at hr5
          have e45 := ei.trans e5
          have hax5 := e5 _ _ hax
          have hD5 := e45 _ _ hD
          clear e5 nr
          refine for_it (walk_tup (xs := (bagI ws (restI ws.length b)).map V.str)) (fun m σ' H' => ∃ a6, σ' = [some (.ref g), some (.ref p), some (.ref B), a3, some (.ref D), some (.ref ax), a6] ∧ Evl.Ex H5 H' ∧ ((restI ws.length b).findSome? fun j => if wI ws.length zs (insI ws.length b j) < wI ws.length zs b then some (b, j) else none) = (((restI ws.length b).drop m).findSome? fun j => if wI ws.length zs (insI ws.length b j) < wI ws.length zs b then some (b, j) else none))
            ⟨a6, rfl, Evl.Ex.refl _, rfl⟩ (fun m σ' H' _ ⟨_, _, e, _⟩ => Evl.st_of (e _ _ hr5)) (fun m z σ' H' H'' hm ⟨a6, es, em, hfm⟩ hz => ?_) (fun σ' H' ⟨a6, es, em, hfm⟩ => ?_)
          · subst es
            obtain ⟨rfl, hzm⟩ := hz
            unfold bagI at hzm
            rw [List.map_map, List.getElem?_map] at hzm
            obtain ⟨j, hj, rfl⟩ := Option.map_eq_some_iff.mp hzm
            have hjn := rest_in hj
            rw [some_drop hj] at hfm
            have eD := e4.trans (e45.trans em)
            dsimp only [gName, List.set, Function.comp]
            refine Evl.s_when (b := decide (wI ws.length zs (insI ws.length b j) < wI ws.length zs b)) (Evl.et_test (Evl.ev_op (z := .bl (decide (wI ws.length zs (insI ws.length b j) < wI ws.length zs b))) (ev_dgetU (k := keyI ws (insI ws.length b j)) (v := .int (wI ws.length zs (insI ws.length b j))) (Evl.ev_var rfl) ?_ (em _ _ hD5) (valI hI hn hz (ins_in ws.length hn b hbm j hjn))) (ev_dgetT (Evl.ev_var rfl) (Evl.ev_var rfl) (em _ _ hD5) (by rw [keyI_V]; exact em _ _ hax5) (valI hI hn hz hbm)) Evl.rv_I0)) (fun hb2 H6 e6 => ?_) (fun hb2 H6 e6 => ?_)
            · rw [keyI_V, ← ins_eq hI bi hjn]
              refine fun H6 e6 Q6 q6 => ⟨.ref ax, rfl, .str (fI ws j), rfl, by show 1 ≤ sizeLine; decide, fun q nq => ⟨ax, q, bagI ws b, [fI ws j], rfl, Evl.st_of ((Evl.Ex.new nq) _ _ (e6 _ _ (em _ _ hax5))), Evl.st_of upd_same, by unfold bagI; rw [List.length_map]; exact bl, by simp, fun r H7 e7 nr hr7 => q6 r H7 ?_ ((Evl.Ex.new nq).trans e7) hr7⟩⟩
              exact Evl.fresh_back (Evl.Ex.new nq) nr
            · have hlt : wI ws.length zs (insI ws.length b j) < wI ws.length zs b := by simpa using hb2
              rw [if_pos hlt] at hfm
              rw [hfm] at hf
              rw [hf] at hQ
              refine Evl.ea_cons (Evl.ev_var rfl) (Evl.ea_cons (Evl.ev_var rfl) Evl.ea_nil) H6 (Evl.Ex.refl _) _ fun H7 e7 => ?_
              have ea := em.trans (e6.trans e7)
              exact mk2_at fun d nd => hQ _ d ax (((e4.trans e45).trans ea).trans (Evl.Ex.new nd)) ((Evl.Ex.new nd) _ _ (ea _ _ hax5)) upd_same
            · have hlt : ¬ wI ws.length zs (insI ws.length b j) < wI ws.length zs b := by simpa using hb2
              rw [if_neg hlt] at hfm
              exact ⟨_, rfl, em.trans e6, hfm⟩
          · subst es
            rw [List.length_map] at hfm
            unfold bagI at hfm
            rw [List.length_map, List.drop_length] at hfm
            have hfm : ((restI ws.length b).findSome? fun j => if wI ws.length zs (insI ws.length b j) < wI ws.length zs b then some (b, j) else none) = none := hfm
            rw [hfm] at hf
            exact ⟨_, _, rfl, e45.trans em, hf⟩
        · subst es
          rw [lub, List.drop_length] at hf
          have hf : fallI ws.length zs (allI ws.length) = none := hf
          rw [hf] at hQ
          exact ⟨.ref D, rfl, hQ D H' (e4.trans ei) nDH (ei _ _ hD)⟩
end
end Lw

namespace Lw
open PySem PySem.Spec PyProof.Rows L2
def worstA (kvs : List (L2.Key × V)) (ws : List Str) : Option Str := ws.find? fun s => !wholeB (amt kvs s) 0 1000000
theorem worst_drop {kvs : List (L2.Key × V)} {ws : List Str} {i : Nat} {s : Str} (h : ws[i]? = some s) : worstA kvs (ws.drop i) = if wholeB (amt kvs s) 0 1000000 = true then worstA kvs (ws.drop (i + 1)) else some s := by
  rw [List.drop_eq_getElem_cons (List.getElem?_eq_some_iff.mp h).1, (List.getElem?_eq_some_iff.mp h).2]
  unfold worstA
  by_cases hw : wholeB (amt kvs s) 0 1000000 = true
  · rw [List.find?_cons_of_neg (by simpa using hw), if_pos hw]
  · rw [List.find?_cons_of_pos (by simpa using hw), if_neg hw]
def sp_check (K : PySem.W.Frag) (CW : Addr) : Sp := fun vs H Q E => ∃ (g d : Addr) (ws ks : List Str) (kvs : List (L2.Key × V)), vs = [.ref g, .ref d] ∧ SqT K H g (ws.map V.str) ∧ H d = some (.dK kvs) ∧ KD kvs ks ∧ (∀ s ∈ ws, s ∈ ks) ∧ (∀ s ∈ ws, AmX H (amt kvs s)) ∧
  match worstA kvs ws with
  | some s => ∀ H1 d, Evl.Ex H H1 → H1 d = some (.xd [("worth", amt kvs s)]) → E (.ref CW) (some d) H1
  | none => ∀ H1, Evl.Ex H H1 → Q .non H1
def sums (kvs : List (L2.Key × V)) (xs : List Str) (m : Nat) : Int := ((dsc (xs.map fun s => toI (amt kvs s))).take m).sum
def sp_great (K : PySem.W.Frag) : Sp := fun vs H Q _ => ∃ (d b : Addr) (m : Nat) (xs ks : List Str) (kvs : List (L2.Key × V)), vs = [.ref d, .ref b, .int (m : Int)] ∧ H d = some (.dK kvs) ∧ KD kvs ks ∧ SqT K H b (xs.map V.str) ∧ xs.length ≤ 5 ∧ (∀ s ∈ xs, s ∈ ks ∧ ∃ i, amt kvs s = .int i) ∧ ∀ H1, Evl.Ex H H1 → Q (.int (sums kvs xs m)) H1
def sp_filled (K : PySem.W.Frag) : Sp := fun vs H Q _ => ∃ (a : Addr) (ws : List Str), vs = [.ref a] ∧ SqT K H a (ws.map V.str) ∧ Inc ws ∧ ws.length ≤ 5 ∧ ∀ p us H2, Evl.Ex H H2 → H p = none → H2 p = some (.lst us) → Bags H2 us (((allI ws.length).drop 1).map (bagI ws)) → Q (.ref p) H2
theorem ev_dgetK {td ty : TE} {σ : L2.St} {H : Hp} {a : Addr} {kvs : List (Key × V)} {s : Str} {v : V} (h1 : Evl.Ev td σ H (.ref a)) (h2 : Evl.Ev ty σ H (.str s)) (ha : H a = some (.dK kvs)) (hv : valV kvs (.inr s) = some v) : Evl.Ev (tDGet td ty) σ H v :=
  fun H1 e Q q => h1 H1 e _ fun H2 e2 => h2 H2 (e.trans e2) _ fun H3 e3 => ⟨a, v, rfl, by rw [← hv]; exact DGet.k (k := .inr s) ((e.trans (e2.trans e3)) _ _ ha), q H3 (e2.trans e3)⟩
theorem Bags.drop {H : Hp} : ∀ {us : List V} {bs : List (List Str)} (n : Nat), Bags H us bs → Bags H (us.drop n) (bs.drop n)
  | _, _, 0, h => h
  | [], [], n + 1, _ => trivial
  | _ :: us, _ :: bs, n + 1, h => Bags.drop (us := us) (bs := bs) n h.2
  | [], _ :: _, _ + 1, h => h.elim
  | _ :: _, [], _ + 1, h => h.elim
abbrev s_filled_bundles : Stmt := topS 31
abbrev n_filled_bundles : List Str := ["goods"]
theorem sc_filled_bundles : FnScope n_filled_bundles ["goods"] (defScope s_filled_bundles) := ⟨rfl, rfl, rfl, by decide +kernel, rfl, by decide +kernel, by decide +kernel⟩
abbrev s_check_amounts : Stmt := topS 35
abbrev n_check_amounts : List Str := ["goods", "amounts", "good"]
theorem sc_check_amounts : FnScope n_check_amounts ["goods", "amounts"] (defScope s_check_amounts) := ⟨rfl, rfl, rfl, by decide +kernel, rfl, by decide +kernel, by decide +kernel⟩
abbrev s_greatest_sum : Stmt := topS 36
abbrev n_greatest_sum : List Str := ["amounts", "bundle", "most", "good"]
theorem sc_greatest_sum : FnScope n_greatest_sum ["amounts", "bundle", "most"] (defScope s_greatest_sum) := ⟨rfl, rfl, rfl, by decide +kernel, rfl, by decide +kernel, by decide +kernel⟩
section
variable {P : Program} {w : World} {K : PySem.W.Frag} {mg : Str → Option Value} {base : Heap}
theorem ok_filled {f f2 : Addr} {fd fd2 : FuncData} (F : Fun K "filled_bundles" "filled_bundles" s_filled_bundles f fd)
    (F_all_bundles : Fun K "all_bundles" "all_bundles" s_all_bundles f2 fd2) (b_all_bundles : Binds K fd2 ["goods"] []) (g_all_bundles : mg "all_bundles" = some (.ref f2)) (G_all_bundles : FnOk P w K mg base CX0 1 f2 fd2 ["goods"] (sp_allb K)) : FnOk P w K mg base CX0 2 f fd ["goods"] (sp_filled K) := by
  refine F.ok sc_filled_bundles (fun vs H Q E h => ?_) (fun cdv A outer s H vs Q E hr h => ?_)
  · obtain ⟨a, ws, rfl, _⟩ := h
    rfl
  · obtain ⟨a, ws, rfl, hS, hI, hL, hQ⟩ := h
    refine ⟨_, (pss_one (ps_ret (pe_slice sl_list (pe_call G_all_bundles (hr.mono (by decide)) (by rfl) g_all_bundles F_all_bundles.kp b_all_bundles .nil pass0 (pa_cons (pv 0) pa_nil)) (po_some pe_int) po_none))), ?_⟩
    refine ⟨.ref a, rfl, a, ws, rfl, hS, hI, hL, fun B ub H1 e1 nB hB bB => ?_⟩
    refine ⟨1, rfl, B, ub, rfl, Evl.sq_of hB, fun p np => ?_⟩
    have hc : cutV ub (some 1) none = ub.drop 1 := by
      have := (all_len ws.length (by omega)).1
      have hl : ub.length = (allI ws.length).length := by rw [bB.len, List.length_map]
      simp only [cutV, HT.sIx]
      rw [if_neg (by omega), Nat.min_eq_left (by show 1 ≤ ub.length; omega)]
      exact List.take_of_length_le (by rw [List.length_drop]; exact Nat.le_refl _)
    rw [hc]
    refine hQ p (ub.drop 1) _ (e1.trans (Evl.Ex.new np)) (Evl.fresh_back e1 np) upd_same ?_
    rw [List.map_drop]
    exact (bB.drop 1).ex (Evl.Ex.new np)
theorem ok_check {f CW fW f2 : Addr} {fd fdW fd2 : FuncData} (F : Fun K "check_amounts" "check_amounts" s_check_amounts f fd)
    (EW : ErC P w K mg base "BadWorth" "worth" CW fW fdW)
    (F_is_worth : Fun K "is_worth" "is_worth" s_is_worth f2 fd2) (b_is_worth : Binds K fd2 ["value"] []) (g_is_worth : mg "is_worth" = some (.ref f2)) (G_is_worth : FnOk P w K mg base CX0 2 f2 fd2 ["value"] sp_worth) : FnOk P w K mg base (L2.CX P w) 3 f fd ["goods", "amounts"] (sp_check K CW) := by
  refine F.okX sc_check_amounts (fun vs H Q E h => ?_) (fun cdv A outer s H vs Q E hr h => ?_)
  · obtain ⟨g, d, ws, ks, kvs, rfl, _⟩ := h
    rfl
  · obtain ⟨g, d, ws, ks, kvs, rfl, hS, hd, hk, hsub, hA, hQ⟩ := h
    have O_BadWorth := EW.O
    have i_BadWorth := EW.i
    have t_BadWorth := EW.t
    have G_iBadWorth := EW.G
    have b_iBadWorth := EW.b
    have g_BadWorth := EW.g
    refine ⟨_, (pss_one (ps_for (passes_of rfl) rfl  (pi_tup (pv 0)) (pg_name (i := 2) sc_check_amounts.nd rfl (by first | exact .inl rfl | exact .inr rfl))
   (pss_one (ps_if (pt_not (pt_val (pe_call G_is_worth (hr.mono (by decide)) (by rfl) g_is_worth F_is_worth.kp b_is_worth .nil pass0 (pa_cons (pe_dget (hu_of hr) (pv 1) (pv 2) (fun _ _ => rfl)) pa_nil))))
   (pss_one (ps_raise rfl (takes_of rfl rfl rfl rfl) (pmk_oex O_BadWorth i_BadWorth t_BadWorth G_iBadWorth (hr.mono (by decide)) b_iBadWorth .nil pass0 (by rfl) g_BadWorth (pa_cons (pe_dget (hu_of hr) (pv 1) (pv 2) (fun _ _ => rfl)) pa_nil))))
   pss_nil)))), ?_⟩
    refine Evl.s_forT (xs := ws.map V.str) (Evl.ev_var rfl) hS (fun i σ' H' => ∃ a2, σ' = [some (.ref g), some (.ref d), a2] ∧ Evl.Ex H H' ∧ worstA kvs ws = worstA kvs (ws.drop i)) (fun H4 e4 => ⟨none, rfl, e4, rfl⟩) (fun i σ' H' _ ⟨_, _, e, _⟩ => Evl.ex_t e hS) (fun i y σ' H' hy ⟨a2, es, ei, hb⟩ => ?_) (fun σ' H' ⟨a2, es, ei, hb⟩ => ?_)
    · subst es
      rw [List.getElem?_map] at hy
      obtain ⟨s, hs, rfl⟩ := Option.map_eq_some_iff.mp hy
      have hsm := List.mem_of_getElem? hs
      have hv := hk.amtV (hsub s hsm)
      rw [worst_drop hs] at hb
      have gv : ∀ {H4 : Hp}, Evl.Ex H H4 → Evl.Ev (tDGet (tVar 1) (tVar 2)) [some (.ref g), some (.ref d), some (.str s)] H4 (amt kvs s) := fun {H4} e4 => ev_dgetK (Evl.ev_var rfl) (Evl.ev_var rfl) (e4 _ _ hd) hv
      dsimp only [gName, List.set]
      refine Evl.s_when (b := !wholeB (amt kvs s) 0 1000000) (Evl.et_not (Evl.et_B (Evl.ev_call (z := .bl (wholeB (amt kvs s) 0 1000000)) (Evl.ea_cons (gv ei) Evl.ea_nil) fun H4 e4 Q q E => ⟨_, rfl, ((hA s hsm).ex ei).ex e4, fun H5 e5 => q H5 e5⟩))) (fun hb2 H4 e4 => ?_) (fun hb2 H4 e4 => ?_)
      · rw [if_neg (by simpa using hb2)] at hb
        rw [hb] at hQ
        refine Evl.ea_cons (gv (ei.trans e4)) Evl.ea_nil H4 (Evl.Ex.refl _) _ fun H5 e5 => ?_
        exact mk1_at fun d' nd => hQ _ d' (((ei.trans e4).trans e5).trans (Evl.Ex.new nd)) upd_same
      · rw [if_pos (by simpa using hb2)] at hb
        exact ⟨_, rfl, ei.trans e4, hb⟩
    · subst es
      rw [List.length_map, List.drop_length] at hb
      have hb : worstA kvs ws = none := hb
      rw [hb] at hQ
      exact hQ H' ei
theorem ok_great {f : Addr} {fd : FuncData} {k : Nat} (F : Fun K "greatest_sum" "greatest_sum" s_greatest_sum f fd) (m_sum : mg "sum" = none) (m_sorted : mg "sorted" = none) : FnOk P w K mg base CX0 (k + 1) f fd ["amounts", "bundle", "most"] (sp_great K) := by
  refine F.ok sc_greatest_sum (fun vs H Q E h => ?_) (fun cdv A outer s H vs Q E hr h => ?_)
  · obtain ⟨d, b, m, xs, ks, kvs, rfl, _⟩ := h
    rfl
  · obtain ⟨d, b, m, xs, ks, kvs, rfl, hd, hk, hS, hL, hA, hQ⟩ := h
    refine ⟨_, (pss_one (ps_ret (pe_callB (cr_sum rfl) (by rfl) m_sum (by decide +kernel) (pa_cons (pe_slice sl_list (pe_callBK (cr_sortRevI hr.units) (by rfl) m_sorted (by decide +kernel) (pa_cons (pe_lc (own := [("good", 3)]) (g := gName 3) (by rfl) sc_greatest_sum.nd (pi_tup (pv 1)) (blkOk_by (own := [("good", 3)]) (N := n_greatest_sum) (sc := defScope s_greatest_sum) (by decide +kernel)) (fun _ _ _ _ _ => pg_name (i := 3) sc_greatest_sum.nd rfl (by first | exact .inl rfl | exact .inr rfl)) (fun _ _ _ _ _ => pts_nil) (fun _ _ _ _ _ => (pe_dget (hu_of hr) (pv 0) (pv 3) (fun _ _ => rfl)))) pa_nil) (pk_cons pe_bl pk_nil)) po_none (po_some (pv 2))) pa_nil)))), ?_⟩
    have key : Evl.EvL (tLc (iTup K (tVar 1)) (gName 3) tYes (tDGet (tVar 0) (tVar 3)) [3]) (start n_greatest_sum [.ref d, .ref b, .int (m : Int)]) H ((xs.map fun s => toI (amt kvs s)).map V.int) := by
      have h := el_lcT (K := K) (σ := start n_greatest_sum [.ref d, .ref b, .int (m : Int)]) (H := H) (j := 3) (vs := [3]) (t := tYes) (tl := tVar 1) (te := tDGet (tVar 0) (tVar 3)) (xs := xs) (cv := V.str) (fun _ => true) (fun s => V.int (toI (amt kvs s))) (Evl.ev_var rfl) hS (by omega) (fun _ => rfl) (fun _ _ _ _ => et_yes) (fun s H1 e1 hs _ => by
        obtain ⟨hk1, i, hi⟩ := hA s hs
        refine ev_dgetK (Evl.ev_var rfl) (Evl.ev_var rfl) (e1 _ _ hd) ?_
        rw [hk.amtV hk1, hi]
        rfl)
      rw [List.filter_eq_self.mpr (fun _ _ => rfl)] at h
      rw [List.map_map]
      exact h
    refine Evl.s_ret (v := .int (sums kvs xs m)) (ev_cbL (xs := ((dsc (xs.map fun s => toI (amt kvs s))).take m).map V.int) (by rw [List.map_take]; exact el_take (el_sortrev key) (Evl.ev_var rfl)) fun p H1 hp e => ?_) hQ
    exact fun H2 e2 Q q => ⟨p, _, rfl, Evl.sq_of (e2 _ _ hp), q H2 (Evl.Ex.refl _)⟩
end
end Lw

namespace Lw
open PySem PySem.Spec PyProof.Rows L2
/-- the classes of errors, and the class of tables -/
structure CTs where
  (CT CB CN CD CW CR : Addr)
inductive TR where
  | cnt (v : V)
  | nm (s : Str)
  | tw (s : Str)
  | worth (v : V)
  | fall (b : List Nat) (j : Nat)
  | ok
def wres (ws : List Str) (us : List V) : TR := if us.length + 1 = (allI ws.length).length then
    match badW us with
    | some v => .worth v
    | none => match fallI ws.length (us.map toI) (allI ws.length) with
      | some (b, j) => .fall b j
      | none => .ok
  else .cnt (.int (us.length : Int))
def tres (ws : List Str) (us : List V) : TR := match gres ws with
  | .cnt => .cnt (.int (ws.length : Int))
  | .nm s => .nm s
  | .tw s => .tw s
  | .ok => wres (srt ws) us
def errAt (c : CTs) (ws : List Str) (Fr : Hp → Prop) (E : XK) (k : Prop) : TR → Prop
  | .cnt v => ∀ H1 d, Fr H1 → H1 d = some (.xd [("count", v)]) → E (.ref c.CB) (some d) H1
  | .nm s => ∀ H1 d, Fr H1 → H1 d = some (.xd [("name", .str s)]) → E (.ref c.CN) (some d) H1
  | .tw s => ∀ H1 d, Fr H1 → H1 d = some (.xd [("name", .str s)]) → E (.ref c.CD) (some d) H1
  | .worth v => ∀ H1 d, Fr H1 → H1 d = some (.xd [("worth", v)]) → E (.ref c.CW) (some d) H1
  | .fall b j => ∀ H1 d t, Fr H1 → H1 t = some (.tup ((bagI ws b).map V.str)) → H1 d = some (.xd [("name", .str (fI ws j)), ("value", .ref t)]) → E (.ref c.CR) (some d) H1
  | .ok => k
theorem worthsAt_of {c : CTs} {ws : List Str} {us : List V} {H : Hp} {Q : VK} {E : XK} (h : errAt c ws (Evl.Ex H) E (∀ q H1, Evl.Ex H H1 → H q = none → H1 q = some (dictI ws (us.map toI)) → Q (.ref q) H1) (wres ws us)) : worthsAt c.CB c.CW c.CR ws us H Q E := by
  unfold worthsAt
  unfold wres at h
  by_cases hl : us.length + 1 = (allI ws.length).length
  · rw [if_pos hl] at h ⊢
    cases hb : badW us with
    | some v =>
      rw [hb] at h
      exact h
    | none =>
      rw [hb] at h
      dsimp only at h ⊢
      cases hf : fallI ws.length (us.map toI) (allI ws.length) with
      | some r =>
        rw [hf] at h
        exact h
      | none =>
        rw [hf] at h
        exact h
  · rw [if_neg hl] at h ⊢
    exact h
theorem errAt.mono {c : CTs} {ws : List Str} {F1 F2 : Hp → Prop} {E : XK} {k1 k2 : Prop} {r : TR} (h : errAt c ws F1 E k1 r) (hf : ∀ H, F2 H → F1 H) (hk : k1 → k2) : errAt c ws F2 E k2 r := by
  cases r with
  | cnt n => exact fun H1 d f => h H1 d (hf _ f)
  | nm s => exact fun H1 d f => h H1 d (hf _ f)
  | tw s => exact fun H1 d f => h H1 d (hf _ f)
  | worth v => exact fun H1 d f => h H1 d (hf _ f)
  | fall b j => exact fun H1 d t f => h H1 d t (hf _ f)
  | ok => exact hk h
theorem ev_fld {K : PySem.W.Frag} {ta : TE} {σ : L2.St} {H : Hp} {a C dx : Addr} {fs : List (Str × V)} {f : Str} {v : V} (h : Evl.Ev ta σ H (.ref a)) (hx : H a = some (.ins C dx fs)) (c : Cls K C) (n : NoAttr K C f) (l : fs.lookup f = some v) : Evl.Ev (tFld K ta f) σ H v :=
  fun H1 e Q q => h H1 e _ fun H2 e2 => ⟨a, C, dx, fs, v, rfl, (e.trans e2) _ _ hx, c, n, l, q H2 e2⟩
theorem FrX.back {x D : Addr} {H H1 : Hp} {o : HO} (h : FrX x H H1) (n : H1 D = none) (hx : H1 x = some o) : H D = none := by
  cases hd : H D with
  | none => rfl
  | some u =>
    by_cases e : D = x
    · subst e
      rw [n] at hx
      cases hx
    · rw [h _ _ hd e] at n
      cases n
theorem FrX.am {x : Addr} {H H1 : Hp} {v : V} {o : HO} (h : FrX x H H1) (hx : H x = some o) (ho : o ≠ .tup []) (ha : AmX H v) : AmX H1 v := by
  rcases ha with a | a | a | a | ⟨t, h1, h2⟩
  · exact .inl a
  · exact .inr (.inl a)
  · exact .inr (.inr (.inl a))
  · exact .inr (.inr (.inr (.inl a)))
  · refine .inr (.inr (.inr (.inr ⟨t, h1, h _ _ h2 fun z => ho ?_⟩)))
    rw [z, hx] at h2
    exact Option.some.inj h2
theorem FrX.ofMake {x dx : Addr} {H H1 : Hp} {a b : HO} (nx : H x = none) (nd : H dx = none) (h : FrX x (upd (upd H dx a) x b) H1) : Evl.Ex H H1 := fun c o hc => by
  have n1 : c ≠ x := ne_of_none hc nx
  have n2 : c ≠ dx := ne_of_none hc nd
  refine h c o ?_ n1
  rw [upd_ne n1, upd_ne n2]
  exact hc
def tbF (g d n : Addr) : List (Str × V) := [("_goods", .ref g), ("_worths", .ref d), ("_numbers", .ref n)]
def sp_tinit (K : PySem.W.Frag) (c : CTs) : Sp := fun vs H Q E => ∃ (x dx a p : Addr) (ws : List Str) (us : List V), vs = [.ref x, .ref a, .ref p] ∧ H x = some (.ins c.CT dx []) ∧ SqS K H a ws ∧ TxtOk ws ∧ ws.length ≤ 1000 ∧ H p = some (.lst us) ∧ us.length ≤ 1000 ∧ (∀ v ∈ us, AmX H v) ∧
  errAt c (srt ws) (FrX x H) E (∀ H1 g d n, FrX x H H1 → H g = none → H d = none → H n = none → H1 x = some (.ins c.CT dx (tbF g d n)) → H1 g = some (.tup ((srt ws).map V.str)) → H1 d = some (dictI (srt ws) (us.map toI)) → H1 n = some (.tup us) → Q .non H1) (tres ws us)
abbrev s_Table_init : Stmt := inClass (topS 30) 0
abbrev n_Table_init : List Str := ["self", "goods", "numbers"]
theorem sc_Table_init : FnScope n_Table_init ["self", "goods", "numbers"] (defScope s_Table_init) := ⟨rfl, rfl, rfl, by decide +kernel, rfl, by decide +kernel, by decide +kernel⟩
section
variable {P : Program} {w : World} {K : PySem.W.Frag} {mg : Str → Option Value} {base : Heap}
theorem ok_tinit {f f2 f3 : Addr} {fd fd2 fd3 : FuncData} {c : CTs} (F : Fun K "__init__" "Table.__init__" s_Table_init f fd) (cls : Cls K c.CT) (noG : NoAttr K c.CT "_goods") (noW : NoAttr K c.CT "_worths") (noN : NoAttr K c.CT "_numbers")
    (F_goods_of : Fun K "goods_of" "goods_of" s_goods_of f2 fd2) (b_goods_of : Binds K fd2 ["names"] []) (g_goods_of : mg "goods_of" = some (.ref f2)) (G_goods_of : FnOk P w K mg base (L2.CX P w) 3 f2 fd2 ["names"] (sp_goods K c.CB c.CN c.CD))
    (F_worths_of : Fun K "worths_of" "worths_of" s_worths_of f3 fd3) (b_worths_of : Binds K fd3 ["goods", "numbers"] []) (g_worths_of : mg "worths_of" = some (.ref f3)) (G_worths_of : FnOk P w K mg base (L2.CX P w) 3 f3 fd3 ["goods", "numbers"] (sp_worths K c.CB c.CW c.CR))
    (m_tuple : mg "tuple" = none) : FnOk P w K mg base (L2.CX P w) 4 f fd ["self", "goods", "numbers"] (sp_tinit K c) := by
  refine F.okX sc_Table_init (fun vs H Q E h => ?_) (fun cdv A outer s H vs Q E hr h => ?_)
  · obtain ⟨x, dx, a, p, ws, us, rfl, _⟩ := h
    rfl
  · obtain ⟨x, dx, a, p, ws, us, rfl, hx, hS, hT, hL, hp, hu, hA, hQ⟩ := h
    refine ⟨_, (pss_cons (ps_fld (pv 0) (pe_call G_goods_of (hr.mono (by decide)) (by rfl) g_goods_of F_goods_of.kp b_goods_of .nil (passUp (takes_of rfl rfl rfl rfl) (fun _ _ _ _ h => h)) (pa_cons (pv 1) pa_nil)) rfl)
  (pss_cons (ps_fld (pv 0) (pe_call G_worths_of (hr.mono (by decide)) (by rfl) g_worths_of F_worths_of.kp b_worths_of .nil (passUp (takes_of rfl rfl rfl rfl) (fun _ _ _ _ h => h)) (pa_cons (pe_fld (pv 0) rfl) (pa_cons (pv 2) pa_nil))) rfl)
  (pss_one (ps_fld (pv 0) (pe_callTy call_tuple_of (by rfl) m_tuple (by decide +kernel) (pa_cons (pv 2) pa_nil)) rfl)))), ?_⟩
    refine ⟨.ref a, rfl, a, ws, rfl, hS, hT, hL, fun H1 e1 => ?_⟩
    have fr1 : FrX x H H1 := fun b o hb _ => e1 _ _ hb
    unfold tres at hQ
    unfold goodsAt
    cases hg : gres ws with
    | cnt =>
      rw [hg] at hQ
      intro d nd
      exact hQ _ d (fr1.ex (Evl.Ex.new nd)) upd_same
    | nm s =>
      rw [hg] at hQ
      intro d nd
      exact hQ _ d (fr1.ex (Evl.Ex.new nd)) upd_same
    | tw s =>
      rw [hg] at hQ
      intro d nd
      exact hQ _ d (fr1.ex (Evl.Ex.new nd)) upd_same
    | ok =>
      rw [hg] at hQ
      intro g ng
      obtain ⟨⟨_, hl5⟩, _, hnd⟩ := gres_ok.mp hg
      have eg := Evl.Ex.new (o := .tup ((srt ws).map V.str)) ng
      have ngx : g ≠ x := fun e => by
        rw [e, e1 _ _ hx] at ng
        cases ng
      have npx : p ≠ x := fun e => by
        rw [e, hx] at hp
        cases hp
      have ngH : H g = none := Evl.fresh_back e1 ng
      refine ⟨.ref x, rfl, x, c.CT, dx, [], rfl, eg _ _ (e1 _ _ hx), cls, noG, by decide, ?_⟩
      have fr3 : FrX x H (upd (upd H1 g (.tup ((srt ws).map V.str))) x (.ins c.CT dx [("_goods", .ref g)])) := (fr1.ex eg).put
      have hx3 : (upd (upd H1 g (.tup ((srt ws).map V.str))) x (.ins c.CT dx [("_goods", .ref g)])) x = some (.ins c.CT dx [("_goods", .ref g)]) := upd_same
      have hg3 : (upd (upd H1 g (.tup ((srt ws).map V.str))) x (.ins c.CT dx [("_goods", .ref g)])) g = some (.tup ((srt ws).map V.str)) := by
        rw [upd_ne ngx]
        exact upd_same
      show Ends.nx _ _ (upd (upd H1 g (.tup ((srt ws).map V.str))) x (.ins c.CT dx [("_goods", .ref g)]))
      clear fr1 eg e1 ng
      revert fr3 hx3 hg3
      generalize upd (upd H1 g (.tup ((srt ws).map V.str))) x (.ins c.CT dx [("_goods", .ref g)]) = H3
      intro fr3 hx3 hg3
      have e4 : Evl.Ex H3 H3 := Evl.Ex.refl H3
      have fr4 := fr3.ex e4
      refine ⟨.ref x, rfl, x, c.CT, dx, _, .ref g, rfl, hx3, cls, noG, rfl, .ref p, rfl, g, p, srt ws, us, rfl, Evl.st_of (e4 _ _ hg3), srt_inc hnd, srt_ok hT, by rw [srt_len]; exact hl5, Evl.sq_of (fr4 _ _ hp npx), hu, fun v hv => fr4.am hx (by intro h; cases h) (hA v hv), worthsAt_of (c := c) (hQ.mono (fun H5 e5 => fr4.ex e5) fun hk D H5 e5 nD hD => ?_)⟩
      have e35 := e4.trans e5
      have nDx : D ≠ x := fun e => by
        rw [e, e4 _ _ hx3] at nD
        cases nD
      have nDg : D ≠ g := fun e => by
        rw [e, e4 _ _ hg3] at nD
        cases nD
      refine ⟨.ref x, rfl, x, c.CT, dx, _, rfl, e35 _ _ hx3, cls, noW, by show (1 : Nat) < 1000; omega, ?_⟩
      refine ⟨.ref p, rfl, p, us, rfl, .inl ⟨Evl.sq_of ?_, fun n nn => ?_⟩⟩
      · rw [upd_ne npx]
        exact e35 _ _ (fr3 _ _ hp npx)
      · have nnx : n ≠ x := fun e => by
          rw [e, upd_same] at nn
          cases nn
        rw [upd_ne nnx] at nn
        have nng : g ≠ n := fun e => by
          rw [← e, e35 _ _ hg3] at nn
          cases nn
        have nnD : D ≠ n := fun e => by
          rw [← e, hD] at nn
          cases nn
        refine ⟨.ref x, rfl, x, c.CT, dx, _, rfl, by rw [upd_ne (Ne.symm nnx)]; exact upd_same, cls, noN, by show (2 : Nat) < 1000; omega, ?_⟩
        refine hk _ g D n ?_ ngH (fr4.back nD (e4 _ _ hx3)) ((fr4.ex e5).back nn (e35 _ _ hx3)) upd_same ?_ ?_ ?_
        · exact ((fr4.ex e5).put.ex (Evl.Ex.new (by rw [upd_ne nnx]; exact nn))).put
        · rw [upd_ne ngx, upd_ne nng, upd_ne ngx]
          exact e35 _ _ hg3
        · rw [upd_ne nDx, upd_ne nnD, upd_ne nDx]
          exact hD
        · rw [upd_ne nnx]
          exact upd_same
end
end Lw

namespace Lw
open PySem PySem.Spec PyProof.Rows L2
theorem el_lcNew {K : PySem.W.Frag} {tl te : TE} {g : TG} {t : TT} {vs : List Nat} {σ : L2.St} {H : Hp} {zs : List V} (h : ∀ H1, Evl.Ex H H1 → ∀ Q : VK, (∀ a H2, Evl.Ex H1 H2 → Evl.EvL (tLc (iList K (tC (.ref a))) g t te vs) σ H2 zs → Q (.ref a) H2) → tl σ H1 Q) : Evl.EvL (tLc (iList K tl) g t te vs) σ H zs := fun H1 e Q q =>
  h H1 e _ fun a H2 e2 k => k H2 (Evl.Ex.refl _) Q fun p H3 np e3 hp => q p H3 (Evl.fresh_back e2 np) (e2.trans e3) hp
theorem bags_zip {H : Hp} : ∀ {us : List V} {bs : List (List Str)}, Bags H us bs → (us.zip bs).map (·.1) = us ∧ (us.zip bs).map (·.2) = bs ∧ ∀ c ∈ us.zip bs, ∃ a, c.1 = .ref a ∧ H a = some (.tup (c.2.map V.str)) ∧ c.2 ∈ bs
  | [], [], _ => ⟨rfl, rfl, fun c h => nomatch h⟩
  | u :: us, b :: bs, h => by
    obtain ⟨h1, h2, h3⟩ := bags_zip (us := us) (bs := bs) h.2
    refine ⟨by simp [h1], by simp [h2], fun c hc => ?_⟩
    rw [List.zip_cons_cons] at hc
    rcases List.mem_cons.mp hc with rfl | hc
    · obtain ⟨a, e, ha⟩ := h.1
      exact ⟨a, e, ha, List.mem_cons_self⟩
    · obtain ⟨a, e, ha, hm⟩ := h3 c hc
      exact ⟨a, e, ha, List.mem_cons_of_mem _ hm⟩
  | [], _ :: _, h => h.elim
  | _ :: _, [], h => h.elim
theorem upd_none {H : Hp} {a b : Addr} {o : HO} (h : (upd H a o) b = none) : H b = none := by
  by_cases e : b = a
  · rw [e, upd_same] at h
    cases h
  · rwa [upd_ne e] at h
theorem toI_map (zs : List Int) : (zs.map V.int).map toI = zs := by
  rw [List.map_map]
  exact (List.map_congr_left fun _ _ => rfl).trans (List.map_id zs)
def rowS (kvs : List (L2.Key × V)) (ws : List Str) (m : Nat) : List Int := ((allI ws.length).drop 1).map fun b => sums kvs (bagI ws b) m
def sres (kvs : List (L2.Key × V)) (ks : List Str) (m : V) : TR := match gres (srt ks) with
  | .cnt => .cnt (.int (ks.length : Int))
  | .nm s => .nm s
  | .tw s => .tw s
  | .ok => match worstA kvs (srt ks) with
    | some s => .worth (amt kvs s)
    | none => if wholeB m 0 (ks.length : Int) = true then wres (srt ks) ((rowS kvs (srt ks) (toI m).toNat).map V.int) else .cnt m
/-- a new table -/
def TabN (CT y : Addr) (ws : List Str) (zs : List Int) (H H1 : Hp) : Prop := ∃ dx g d n, H y = none ∧ H g = none ∧ H d = none ∧ H n = none ∧ H1 y = some (.ins CT dx (tbF g d n)) ∧ H1 g = some (.tup (ws.map V.str)) ∧ H1 d = some (dictI ws zs) ∧ H1 n = some (.tup (zs.map V.int))
def sp_some (c : CTs) : Sp := fun vs H Q E => ∃ (d : Addr) (m : V) (kvs : List (L2.Key × V)) (ks : List Str), vs = [.ref c.CT, .ref d, m] ∧ H d = some (.dK kvs) ∧ KD kvs ks ∧ TxtOk ks ∧ ks.length ≤ 60 ∧ (∀ p ∈ kvs, AmX H p.2) ∧ AmX H m ∧
  errAt c (srt ks) (Evl.Ex H) E (∀ y H1, Evl.Ex H H1 → TabN c.CT y (srt ks) (rowS kvs (srt ks) (toI m).toNat) H H1 → Q (.ref y) H1) (sres kvs ks m)
abbrev s_Table_some_of : Stmt := inClass (topS 30) 3
abbrev n_Table_some_of : List Str := ["cls", "amounts", "most", "goods", "bundle"]
theorem sc_Table_some_of : FnScope n_Table_some_of ["cls", "amounts", "most"] (defScope s_Table_some_of) := ⟨rfl, rfl, rfl, by decide +kernel, rfl, by decide +kernel, by decide +kernel⟩
section
variable {P : Program} {w : World} {K : PySem.W.Frag} {mg : Str → Option Value} {base : Heap}
theorem ok_some {f fI f2 f3 f4 f5 f6 fB : Addr} {fd fdI fd2 fd3 fd4 fd5 fd6 fdB : FuncData} {c : CTs} (F : Fun K "some_of" "Table.some_of" s_Table_some_of f fd) (M_Table : Mk K c.CT fI) (b_Table_init : Binds K fdI ["self", "goods", "numbers"] []) (G_Table_init : FnOk P w K mg base (L2.CX P w) 4 fI fdI ["self", "goods", "numbers"] (sp_tinit K c))
    (EB : ErC P w K mg base "BadCount" "count" c.CB fB fdB)
    (F_goods_of : Fun K "goods_of" "goods_of" s_goods_of f2 fd2) (b_goods_of : Binds K fd2 ["names"] []) (g_goods_of : mg "goods_of" = some (.ref f2)) (G_goods_of : FnOk P w K mg base (L2.CX P w) 3 f2 fd2 ["names"] (sp_goods K c.CB c.CN c.CD))
    (F_check_amounts : Fun K "check_amounts" "check_amounts" s_check_amounts f3 fd3) (b_check_amounts : Binds K fd3 ["goods", "amounts"] []) (g_check_amounts : mg "check_amounts" = some (.ref f3)) (G_check_amounts : FnOk P w K mg base (L2.CX P w) 3 f3 fd3 ["goods", "amounts"] (sp_check K c.CW))
    (F_is_whole : FunD K "is_whole" "is_whole" (defArgs s_is_whole) (defBody s_is_whole) (defScope s_is_whole) [.non] [] f4 fd4) (b_is_whole : Binds K fd4 ["value", "least", "most"] []) (g_is_whole : mg "is_whole" = some (.ref f4)) (G_is_whole : FnOk P w K mg base CX0 1 f4 fd4 ["value", "least", "most"] sp_whole3)
    (F_greatest_sum : Fun K "greatest_sum" "greatest_sum" s_greatest_sum f5 fd5) (b_greatest_sum : Binds K fd5 ["amounts", "bundle", "most"] []) (g_greatest_sum : mg "greatest_sum" = some (.ref f5)) (G_greatest_sum : FnOk P w K mg base CX0 1 f5 fd5 ["amounts", "bundle", "most"] (sp_great K))
    (F_filled_bundles : Fun K "filled_bundles" "filled_bundles" s_filled_bundles f6 fd6) (b_filled_bundles : Binds K fd6 ["goods"] []) (g_filled_bundles : mg "filled_bundles" = some (.ref f6)) (G_filled_bundles : FnOk P w K mg base CX0 2 f6 fd6 ["goods"] (sp_filled K))
    (m_sorted : mg "sorted" = none) (m_len : mg "len" = none) : FnOk P w K mg base (L2.CX P w) 6 f fd ["cls", "amounts", "most"] (sp_some c) := by
  refine F.okX sc_Table_some_of (fun vs H Q E h => ?_) (fun cdv A outer s H vs Q E hr h => ?_)
  · obtain ⟨d, m, kvs, ks, rfl, _⟩ := h
    rfl
  · obtain ⟨d, m, kvs, ks, rfl, hd, hk, hT, hl, hA, hM, hQ⟩ := h
    have O_BadCount := EB.O
    have i_BadCount := EB.i
    have t_BadCount := EB.t
    have G_iBadCount := EB.G
    have b_iBadCount := EB.b
    have g_BadCount := EB.g
    refine ⟨_, (pss_cons (ps_set (i := 3) sc_Table_some_of.nd rfl (by first | exact .inl rfl | exact .inr rfl) (pe_call G_goods_of (hr.mono (by decide)) (by rfl) g_goods_of F_goods_of.kp b_goods_of .nil (passUp (takes_of rfl rfl rfl rfl) (fun _ _ _ _ h => h)) (pa_cons (pe_callB (call_sortedD rfl) (by rfl) m_sorted (by decide +kernel) (pa_cons (pv 1) pa_nil)) pa_nil)))
  (pss_cons (ps_expr (pe_call G_check_amounts (hr.mono (by decide)) (by rfl) g_check_amounts F_check_amounts.kp b_check_amounts .nil (passUp (takes_of rfl rfl rfl rfl) (fun _ _ _ _ h => h)) (pa_cons (pv 3) (pa_cons (pv 1) pa_nil))))
  (pss_cons (ps_if (pt_not (pt_val (pe_call G_is_whole (hr.mono (by decide)) (by rfl) g_is_whole F_is_whole.kp b_is_whole .nil pass0 (pa_cons (pv 2) (pa_cons pe_int (pa_cons (pe_callB call_len_seq (by rfl) m_len PySem.boot_len (pa_cons (pv 3) pa_nil)) pa_nil))))))
   (pss_one (ps_raise rfl (takes_of rfl rfl rfl rfl) (pmk_oex O_BadCount i_BadCount t_BadCount G_iBadCount (hr.mono (by decide)) b_iBadCount .nil pass0 (by rfl) g_BadCount (pa_cons (pv 2) pa_nil))))
   pss_nil)
  (pss_one (ps_ret (pe_makeV (pv 0) M_Table G_Table_init (hr.mono (by decide)) b_Table_init (passUp (takes_of rfl rfl rfl rfl) (fun _ _ _ _ h => h)) (pa_cons (pv 3) (pa_cons (pe_lc (own := [("bundle", 4)]) (g := gName 4) (by rfl) sc_Table_some_of.nd (pi_list (pe_call G_filled_bundles (hr.mono (by decide)) (by rfl) g_filled_bundles F_filled_bundles.kp b_filled_bundles .nil pass0 (pa_cons (pv 3) pa_nil))) (blkOk_by (own := [("bundle", 4)]) (N := n_Table_some_of) (sc := defScope s_Table_some_of) (by decide +kernel)) (fun _ _ _ _ _ => pg_name (i := 4) sc_Table_some_of.nd rfl (by first | exact .inl rfl | exact .inr rfl)) (fun _ _ _ _ _ => pts_nil) (fun _ _ _ _ _ => (pe_call G_greatest_sum (hr.mono (by decide)) (by rfl) g_greatest_sum F_greatest_sum.kp b_greatest_sum .nil pass0 (pa_cons (pv 1) (pa_cons (pv 4) (pa_cons (pv 2) pa_nil)))))) pa_nil)))))))), ?_⟩
    refine ⟨.ref d, rfl, d, kvs, ks, rfl, .inl hd, hk, by omega, fun ys p hp hs np => ?_⟩
    obtain rfl := srt_only hp hs
    refine ⟨p, srt ks, rfl, .inl (Evl.sq_of upd_same), srt_ok hT, by rw [srt_len]; omega, fun H1 e1 => ?_⟩
    have e01 : Evl.Ex H H1 := (Evl.Ex.new np).trans e1
    unfold sres at hQ
    unfold goodsAt
    cases hg : gres (srt ks) with
    | cnt =>
      rw [hg] at hQ
      intro d' nd
      exact hQ _ d' (e01.trans (Evl.Ex.new nd)) (by rw [upd_same, srt_len])
    | nm s =>
      rw [hg] at hQ
      intro d' nd
      exact hQ _ d' (e01.trans (Evl.Ex.new nd)) upd_same
    | tw s =>
      rw [hg] at hQ
      intro d' nd
      exact hQ _ d' (e01.trans (Evl.Ex.new nd)) upd_same
    | ok =>
      rw [hg] at hQ
      intro g ng
      rw [srt_idem]
      obtain ⟨⟨_, hl5⟩, _, hnd⟩ := gres_ok.mp hg
      rw [srt_len] at hl5
      have e02 := e01.trans (Evl.Ex.new (o := .tup ((srt ks).map V.str)) ng)
      have hg2 : (upd H1 g (.tup ((srt ks).map V.str))) g = some (.tup ((srt ks).map V.str)) := upd_same
      show Ends.nx _ _ (upd H1 g (.tup ((srt ks).map V.str)))
      clear e01 e1 ng np
      revert e02 hg2
      generalize upd H1 g (.tup ((srt ks).map V.str)) = H2
      intro e02 hg2
      refine ⟨.ref g, rfl, .ref d, rfl, g, d, srt ks, ks, kvs, rfl, Evl.st_of hg2, e02 _ _ hd, hk, fun s hs => srt_mem.mp hs, fun s hs => (hk.amX hA (srt_mem.mp hs)).ex e02, ?_⟩
      cases hw : worstA kvs (srt ks) with
      | some s =>
        rw [hw] at hQ
        exact fun H3 d' e3 h => hQ H3 d' (e02.trans e3) h
      | none =>
        rw [hw] at hQ
        intro H3 e3
        have e03 := e02.trans e3
        have hg3 := e3 _ _ hg2
        clear hg2 e3 e02
        have ln : Evl.Ev (tCB (fun xs H Q => ∃ p ys, xs = [.ref p] ∧ (SqL K H p ys ∨ SqT K H p ys) ∧ Q (.int ys.length) H) (tCons (tVar 3) tNil)) [some (.ref c.CT), some (.ref d), some m, some (.ref g), none] H3 (.int (ks.length : Int)) := by
          have := rc_lenT (K := K) (H := H3) (xs := (srt ks).map V.str) (Evl.st_of hg3)
          rw [List.length_map, srt_len] at this
          exact Evl.ev_cb (Evl.ea_cons (Evl.ev_var rfl) Evl.ea_nil) this
        dsimp only
        refine Evl.q_when (σ := [some (.ref c.CT), some (.ref d), some m, some (.ref g), none]) (b := !wholeB m 0 (ks.length : Int)) (Evl.et_not (Evl.et_B (Evl.ev_call (z := .bl (wholeB m 0 (ks.length : Int))) (Evl.ea_cons (Evl.ev_var rfl) (Evl.ea_cons Evl.ev_c (Evl.ea_cons ln Evl.ea_nil))) fun H4 e4 Q q E => ⟨_, _, _, rfl, (hM.ex e03).ex e4, fun H5 e5 => q H5 e5⟩))) (fun hb2 H4 e4 => ?_) (fun hb2 H4 e4 => ?_)
        · have hb3 : wholeB m 0 (ks.length : Int) = false := by simpa using hb2
          simp only [hb3, Bool.false_eq_true, if_false] at hQ
          refine Evl.ea_cons (Evl.ev_var rfl) Evl.ea_nil H4 (Evl.Ex.refl _) _ fun H5 e5 => ?_
          exact mk1_at fun d' nd => hQ _ d' (((e03.trans e4).trans e5).trans (Evl.Ex.new nd)) upd_same
        · have hb3 : wholeB m 0 (ks.length : Int) = true := by simpa using hb2
          simp only [hb3, if_true] at hQ
          obtain ⟨mn, rfl, hmn⟩ : ∃ mn : Nat, m = .int (mn : Int) ∧ mn ≤ ks.length := by
            cases m with
            | int i =>
              simp [wholeB] at hb3
              exact ⟨i.toNat, by rw [Int.toNat_of_nonneg hb3.1], by omega⟩
            | _ => simp [wholeB] at hb3
          have hN : ∀ s ∈ srt ks, s ∈ ks ∧ ∃ i, amt kvs s = .int i := fun s hs => ⟨srt_mem.mp hs, by
            have := List.find?_eq_none.mp hw s hs
            revert this
            cases amt kvs s <;> simp [wholeB]⟩
          have e04 := e03.trans e4
          have hg4 := e4 _ _ hg3
          have hd4 := e04 _ _ hd
          have key : Evl.EvL (tLc (iList K (tCall (sp_filled K) [] E0 (tCons (tVar 3) tNil))) (gName 4) tYes (tCall (sp_great K) [] E0 (tCons (tVar 1) (tCons (tVar 4) (tCons (tVar 2) tNil)))) [4]) [some (.ref c.CT), some (.ref d), some (.int (mn : Int)), some (.ref g), none] H4 ((rowS kvs (srt ks) mn).map V.int) := by
            refine el_lcNew fun H5 e5 Q5 k5 => ?_
            refine ⟨.ref g, rfl, g, srt ks, rfl, Evl.st_of (e5 _ _ hg4), srt_inc ((srt_perm ks).nodup_iff.mp hnd), by rw [srt_len]; exact hl5, fun B ub H6 e6 nB hB bB => k5 B H6 e6 ?_⟩
            obtain ⟨z1, z2, z3⟩ := bags_zip bB
            have hbl := bB.len
            rw [List.length_map, List.length_drop] at hbl
            have hal := (all_len (srt ks).length (by rw [srt_len]; omega)).2
            have h := el_lcM (K := K) (σ := [some (.ref c.CT), some (.ref d), some (.int (mn : Int)), some (.ref g), none]) (H := H6) (a := B) (j := 4) (vs := [4]) (t := tYes) (tl := tC (.ref B)) (te := tCall (sp_great K) [] E0 (tCons (tVar 1) (tCons (tVar 4) (tCons (tVar 2) tNil)))) (xs := ub.zip (((allI (srt ks).length).drop 1).map (bagI (srt ks)))) (cv := fun p => p.1) (fun _ => true) (fun p => V.int (sums kvs p.2 mn)) Evl.ev_c (by rw [z1]; exact Evl.sq_of hB) (by rw [List.length_zip]; omega) (fun _ => rfl) (fun _ _ _ _ => et_yes) (fun p H7 e7 hp _ => by
              obtain ⟨ax, e9, hax, hm⟩ := z3 p hp
              obtain ⟨b, hb, e10⟩ := List.mem_map.mp hm
              have hbi := (all_in (srt ks).length (by rw [srt_len]; omega) b (List.mem_of_mem_drop hb))
              refine Evl.ev_call (Evl.ea_cons (Evl.ev_var rfl) (Evl.ea_cons (Evl.ev_var rfl) (Evl.ea_cons (Evl.ev_var rfl) Evl.ea_nil))) fun H8 e8 Q q E => ⟨d, ax, mn, p.2, ks, kvs, by rw [e9]; rfl, (((e5.trans e6).trans e7).trans e8) _ _ hd4, hk, Evl.st_of ((e7.trans e8) _ _ hax), ?_, fun s hs => hN s ?_, fun H9 e9 => q H9 e9⟩
              · rw [← e10]
                unfold bagI
                rw [List.length_map]
                exact hbi.1
              · rw [← e10] at hs
                obtain ⟨i, hi, rfl⟩ := List.mem_map.mp hs
                rw [ws_eq (srt ks)]
                exact List.mem_map.mpr ⟨i, List.mem_range.mpr (hbi.2 i hi), by rw [← ws_eq (srt ks)]⟩)
            rw [List.filter_eq_self.mpr (fun _ _ => rfl)] at h
            have e11 : (ub.zip (((allI (srt ks).length).drop 1).map (bagI (srt ks)))).map (fun p => V.int (sums kvs p.2 mn)) = (rowS kvs (srt ks) mn).map V.int := by
              rw [show (fun p : V × List Str => V.int (sums kvs p.2 mn)) = (fun b => V.int (sums kvs b mn)) ∘ (fun p => p.2) from rfl, ← List.map_map, z2]
              unfold rowS
              rw [List.map_map, List.map_map]
              rfl
            rw [e11] at h
            exact h
          refine ⟨.ref c.CT, rfl, rfl, .ref g, rfl, key H4 (Evl.Ex.refl _) _ fun p H5 np e5 hp x dx nx ndx ne => ?_⟩
          have e05 := e04.trans e5
          have hg5 := e5 _ _ hg4
          have hp' : (upd (upd H5 dx (.own x)) x (.ins c.CT dx [])) p = some (.lst ((rowS kvs (srt ks) mn).map V.int)) := by
            rw [upd_ne (ne_of_none hp nx), upd_ne (ne_of_none hp ndx)]
            exact hp
          have hg' : (upd (upd H5 dx (.own x)) x (.ins c.CT dx [])) g = some (.tup ((srt ks).map V.str)) := by
            rw [upd_ne (ne_of_none hg5 nx), upd_ne (ne_of_none hg5 ndx)]
            exact hg5
          have hal := (all_len (srt ks).length (by rw [srt_len]; omega)).2
          refine ⟨x, dx, g, p, srt ks, (rowS kvs (srt ks) mn).map V.int, rfl, upd_same, .inr (Evl.st_of hg'), srt_ok hT, by rw [srt_len]; omega, hp', ?_, fun v hv => ?_, ?_⟩
          · unfold rowS
            rw [List.length_map, List.length_map, List.length_drop]
            omega
          · obtain ⟨i, _, rfl⟩ := List.mem_map.mp hv
            exact .inl ⟨i, rfl⟩
          · unfold tres
            rw [hg, srt_idem]
            have tn : (toI (.int (mn : Int))).toNat = mn := Int.toNat_natCast mn
            rw [tn] at hQ
            refine hQ.mono (fun H6 fr => e05.trans (FrX.ofMake nx ndx fr)) fun hk' H6 g' d' n' fr hg1 hd1 hn1 hx6 hg6 hd6 hn6 => ⟨rfl, hk' x H6 (e05.trans (FrX.ofMake nx ndx fr)) ⟨dx, g', d', n', Evl.fresh_back e05 nx, Evl.fresh_back e05 (upd_none (upd_none hg1)), Evl.fresh_back e05 (upd_none (upd_none hd1)), Evl.fresh_back e05 (upd_none (upd_none hn1)), hx6, hg6, by rw [toI_map] at hd6; exact hd6, hn6⟩⟩
end
end Lw

namespace Lw
open PySem PySem.Spec PyProof.Rows L2
def sp_plain (c : CTs) : Sp := fun vs H Q E => ∃ (d : Addr) (kvs : List (L2.Key × V)), vs = [.ref c.CT, .ref d] ∧ H d = some (.dK kvs) ∧ sp_some c [.ref c.CT, .ref d, .int (kvs.length : Int)] H Q E
def sp_one (c : CTs) : Sp := fun vs H Q E => ∃ (d : Addr), vs = [.ref c.CT, .ref d] ∧ sp_some c [.ref c.CT, .ref d, .int 1] H Q E
def TabAt (CT y : Addr) (ws : List Str) (zs : List Int) (H1 : Hp) : Prop := ∃ dx g d n, H1 y = some (.ins CT dx (tbF g d n)) ∧ H1 g = some (.tup (ws.map V.str)) ∧ H1 d = some (dictI ws zs) ∧ H1 n = some (.tup (zs.map V.int))
theorem TabAt.ex {CT y : Addr} {ws : List Str} {zs : List Int} {H H' : Hp} (h : TabAt CT y ws zs H) (e : Evl.Ex H H') : TabAt CT y ws zs H' := by
  obtain ⟨dx, g, d, n, h1, h2, h3, h4⟩ := h
  exact ⟨dx, g, d, n, e _ _ h1, e _ _ h2, e _ _ h3, e _ _ h4⟩
def sp_tgoods (CT : Addr) : Sp := fun vs H Q _ => ∃ (x : Addr) (ws : List Str) (zs : List Int), vs = [.ref x] ∧ TabAt CT x ws zs H ∧ ∀ g H1, Evl.Ex H H1 → H1 g = some (.tup (ws.map V.str)) → Q (.ref g) H1
def sp_tnumbers (CT : Addr) : Sp := fun vs H Q _ => ∃ (x : Addr) (ws : List Str) (zs : List Int), vs = [.ref x] ∧ TabAt CT x ws zs H ∧ ∀ g H1, Evl.Ex H H1 → H1 g = some (.tup (zs.map V.int)) → Q (.ref g) H1
abbrev s_Table_plain : Stmt := inClass (topS 30) 1
abbrev n_Table_plain : List Str := ["cls", "amounts"]
theorem sc_Table_plain : FnScope n_Table_plain ["cls", "amounts"] (defScope s_Table_plain) := ⟨rfl, rfl, rfl, by decide +kernel, rfl, by decide +kernel, by decide +kernel⟩
abbrev s_Table_one_of : Stmt := inClass (topS 30) 2
abbrev n_Table_one_of : List Str := ["cls", "amounts"]
theorem sc_Table_one_of : FnScope n_Table_one_of ["cls", "amounts"] (defScope s_Table_one_of) := ⟨rfl, rfl, rfl, by decide +kernel, rfl, by decide +kernel, by decide +kernel⟩
abbrev s_Table_goods : Stmt := inClass (topS 30) 6
abbrev n_Table_goods : List Str := ["self"]
theorem sc_Table_goods : FnScope n_Table_goods ["self"] (defScope s_Table_goods) := ⟨rfl, rfl, rfl, by decide +kernel, rfl, by decide +kernel, by decide +kernel⟩
abbrev s_Table_numbers : Stmt := inClass (topS 30) 7
abbrev n_Table_numbers : List Str := ["self"]
theorem sc_Table_numbers : FnScope n_Table_numbers ["self"] (defScope s_Table_numbers) := ⟨rfl, rfl, rfl, by decide +kernel, rfl, by decide +kernel, by decide +kernel⟩
section
variable {P : Program} {w : World} {K : PySem.W.Frag} {mg : Str → Option Value} {base : Heap}
theorem ok_plain {f f2 pc : Addr} {fd fd2 : FuncData} {c : CTs} {mc : Value} (F : Fun K "plain" "Table.plain" s_Table_plain f fd) (r_Table : ClX.CRead K c.CT mc) (cm_some : ClX.CMet K c.CT mc "some_of" pc f2) (b_some : Binds K fd2 ["cls", "amounts", "most"] []) (G_some : FnOk P w K mg base (L2.CX P w) 6 f2 fd2 ["cls", "amounts", "most"] (sp_some c)) (m_len : mg "len" = none) : FnOk P w K mg base (L2.CX P w) 7 f fd ["cls", "amounts"] (sp_plain c) := by
  refine F.okX sc_Table_plain (fun vs H Q E h => ?_) (fun cdv A outer s H vs Q E hr h => ?_)
  · obtain ⟨d, kvs, rfl, _⟩ := h
    rfl
  · obtain ⟨d, kvs, rfl, hd, h⟩ := h
    refine ⟨_, (pss_one (ps_ret (pe_cmS (pv 0) r_Table cm_some G_some (hr.mono (by decide)) b_some (fun σ pins => passUp (takes_of rfl rfl rfl rfl) (fun _ _ _ _ h => h) pins σ) (pa_cons (pv 1) (pa_cons (pe_callB call_lenD (by rfl) m_len PySem.boot_len (pa_cons (pv 1) pa_nil)) pa_nil))))), ?_⟩
    exact ⟨.ref c.CT, rfl, rfl, .ref d, rfl, .ref d, rfl, d, kvs, rfl, hd, h⟩
theorem ok_one {f f2 pc : Addr} {fd fd2 : FuncData} {c : CTs} {mc : Value} (F : Fun K "one_of" "Table.one_of" s_Table_one_of f fd) (r_Table : ClX.CRead K c.CT mc) (cm_some : ClX.CMet K c.CT mc "some_of" pc f2) (b_some : Binds K fd2 ["cls", "amounts", "most"] []) (G_some : FnOk P w K mg base (L2.CX P w) 6 f2 fd2 ["cls", "amounts", "most"] (sp_some c)) : FnOk P w K mg base (L2.CX P w) 7 f fd ["cls", "amounts"] (sp_one c) := by
  refine F.okX sc_Table_one_of (fun vs H Q E h => ?_) (fun cdv A outer s H vs Q E hr h => ?_)
  · obtain ⟨d, rfl, _⟩ := h
    rfl
  · obtain ⟨d, rfl, h⟩ := h
    refine ⟨_, (pss_one (ps_ret (pe_cmS (pv 0) r_Table cm_some G_some (hr.mono (by decide)) b_some (fun σ pins => passUp (takes_of rfl rfl rfl rfl) (fun _ _ _ _ h => h) pins σ) (pa_cons (pv 1) (pa_cons pe_int pa_nil))))), ?_⟩
    exact ⟨.ref c.CT, rfl, rfl, .ref d, rfl, h⟩
theorem ok_tgoods {f CT : Addr} {fd : FuncData} {k : Nat} (F : Fun K "goods" "Table.goods" s_Table_goods f fd) (cls : Cls K CT) (noG : NoAttr K CT "_goods") : FnOk P w K mg base CX0 (k + 1) f fd ["self"] (sp_tgoods CT) := by
  refine F.ok sc_Table_goods (fun vs H Q E h => ?_) (fun cdv A outer s H vs Q E hr h => ?_)
  · obtain ⟨x, ws, zs, rfl, _⟩ := h
    rfl
  · obtain ⟨x, ws, zs, rfl, ⟨dx, g, d, n, h1, h2, h3, h4⟩, hQ⟩ := h
    refine ⟨_, (pss_one (ps_ret (pe_fld (pv 0) rfl))), ?_⟩
    exact Evl.s_ret (ev_fld (Evl.ev_var rfl) h1 cls noG rfl) fun H1 e => hQ g H1 e (e _ _ h2)
theorem ok_tnumbers {f CT : Addr} {fd : FuncData} {k : Nat} (F : Fun K "numbers" "Table.numbers" s_Table_numbers f fd) (cls : Cls K CT) (noN : NoAttr K CT "_numbers") : FnOk P w K mg base CX0 (k + 1) f fd ["self"] (sp_tnumbers CT) := by
  refine F.ok sc_Table_numbers (fun vs H Q E h => ?_) (fun cdv A outer s H vs Q E hr h => ?_)
  · obtain ⟨x, ws, zs, rfl, _⟩ := h
    rfl
  · obtain ⟨x, ws, zs, rfl, ⟨dx, g, d, n, h1, h2, h3, h4⟩, hQ⟩ := h
    refine ⟨_, (pss_one (ps_ret (pe_fld (pv 0) rfl))), ?_⟩
    exact Evl.s_ret (ev_fld (Evl.ev_var rfl) h1 cls noN rfl) fun H1 e => hQ n H1 e (e _ _ h4)
end
end Lw

namespace Lw
open PySem PySem.Spec PyProof.Rows L2
abbrev s_law_odd : Stmt := topS 44
abbrev n_law_odd : List Str := ["_law_state"]
theorem sc_law_odd : FnScope n_law_odd ["_law_state"] (defScope s_law_odd) := ⟨rfl, rfl, rfl, by decide +kernel, rfl, by decide +kernel, by decide +kernel⟩
abbrev s_law_worth_ok : Stmt := topS 45
abbrev n_law_worth_ok : List Str := ["_law_thing"]
theorem sc_law_worth_ok : FnScope n_law_worth_ok ["_law_thing"] (defScope s_law_worth_ok) := ⟨rfl, rfl, rfl, by decide +kernel, rfl, by decide +kernel, by decide +kernel⟩
abbrev s_law_told : Stmt := topS 46
abbrev n_law_told : List Str := ["_law_table"]
theorem sc_law_told : FnScope n_law_told ["_law_table"] (defScope s_law_told) := ⟨rfl, rfl, rfl, by decide +kernel, rfl, by decide +kernel, by decide +kernel⟩
def sp_told (CT : Addr) : Sp := fun vs H Q _ => ∃ (x : Addr) (ws : List Str) (zs : List Int), vs = [.ref x] ∧ TabAt CT x ws zs H ∧ ∀ p g n H1, Evl.Ex H H1 → H p = none → H1 p = some (.lst [.str "table", .ref g, .ref n]) → H1 g = some (.tup (ws.map V.str)) → H1 n = some (.tup (zs.map V.int)) → Q (.ref p) H1
section
variable {P : Program} {w : World} {K : PySem.W.Frag} {mg : Str → Option Value} {base : Heap}
abbrev oddL (u : Addr) : List V := [.int (-1), .int 1000001, .bl true, .non, .str "3", .ref u, .int (-(10 ^ (20 : Int).toNat)), .int (10 ^ (9 : Int).toNat), .bl false]
theorem ok_odd {f f2 : Addr} {fd fd2 : FuncData} (F : Fun K "_law_odd" "_law_odd" s_law_odd f fd)
    (F_law_draw : Fun K "_law_draw" "_law_draw" s_law_draw f2 fd2) (b_law_draw : Binds K fd2 ["_law_state", "_law_size"] []) (g_law_draw : mg "_law_draw" = some (.ref f2)) (G_law_draw : FnOk P w K mg base CX0 1 f2 fd2 ["_law_state", "_law_size"] sp_draw) : FnOk P w K mg base CX0 2 f fd ["_law_state"] sp_odd := by
  refine F.ok sc_law_odd (fun vs H Q E h => ?_) (fun cdv A outer s H vs Q E hr h => ?_)
  · obtain ⟨st, n, rfl, _⟩ := h
    rfl
  · obtain ⟨st, n, rfl, D, hn, hQ⟩ := h
    refine ⟨_, (pss_one (ps_ret (pe_ix ix_list (pe_lst (pa_cons (pe_un un_neg pe_int) (pa_cons pe_int (pa_cons pe_bl (pa_cons pe_non (pa_cons pe_str (pa_cons (pe_tup pa_nil) (pa_cons (pe_un un_neg (pe_op op_pow pe_int pe_int)) (pa_cons (pe_op op_pow pe_int pe_int) (pa_cons pe_bl pa_nil)))))))))) (pe_call G_law_draw (hr.mono (by decide)) (by rfl) g_law_draw F_law_draw.kp b_law_draw .nil pass0 (pa_cons (pv 0) (pa_cons pe_int pa_nil))) (fun _ _ => rfl)))), ?_⟩
    refine ⟨1, rfl, Nat.zero_le _, fun u nu => ?_⟩
    have D1 := D.new (o := .tup []) nu
    have a1 := D.fresh (o := .tup []) nu
    have k1 := D.newK (o := .tup []) nu
    refine ⟨10, 20, rfl, rfl, ⟨by omega, by omega, by decide +kernel⟩, _, rfl, 10, 9, rfl, rfl, ⟨by omega, by omega, by decide +kernel⟩, by show 9 ≤ sizeLine; decide, fun p np => ?_⟩
    have D2 := D1.new (o := .lst (oddL u)) np
    have a2 := D1.newK (o := .lst (oddL u)) np _ _ a1
    have k2 := D1.newK (o := .lst (oddL u)) np
    have a3 := D1.fresh (o := .lst (oddL u)) np
    refine ⟨.ref st, rfl, st, 9, n, rfl, D2, by omega, by omega, by omega, fun d H3 d0 d1 D3 k3 => ?_⟩
    obtain ⟨v, hv, hm⟩ := atI_some (xs := oddL u) d0 d1
    refine ⟨p, _, d, v, rfl, rfl, Evl.sq_of (k3 _ _ a3).1, hv, hQ v H3 D3 ((k1.trans k2).trans k3) ?_⟩
    simp only [oddL, List.mem_cons, List.not_mem_nil, or_false] at hm
    rcases hm with rfl | rfl | rfl | rfl | rfl | rfl | rfl | rfl | rfl
    · exact .inl ⟨_, rfl⟩
    · exact .inl ⟨_, rfl⟩
    · exact .inr (.inl ⟨_, rfl⟩)
    · exact .inr (.inr (.inl rfl))
    · exact .inr (.inr (.inr (.inl ⟨_, rfl⟩)))
    · exact .inr (.inr (.inr (.inr ⟨u, rfl, k3 _ _ a2⟩)))
    · exact .inl ⟨_, rfl⟩
    · exact .inl ⟨_, rfl⟩
    · exact .inr (.inl ⟨_, rfl⟩)
theorem ok_worthok {f : Addr} {fd : FuncData} {k : Nat} (F : Fun K "_law_worth_ok" "_law_worth_ok" s_law_worth_ok f fd) (m_isinstance : mg "isinstance" = none) (m_int : mg "int" = none) (m_bool : mg "bool" = none) : FnOk P w K mg base CX0 (k + 1) f fd ["_law_thing"] sp_worth := by
  refine F.ok sc_law_worth_ok (fun vs H Q E h => ?_) (fun cdv A outer s H vs Q E hr h => ?_)
  · obtain ⟨v, rfl, _⟩ := h
    rfl
  · obtain ⟨v, rfl, hA, hQ⟩ := h
    refine ⟨_, (pss_one (ps_ret (pe_and (pe_callB call_isi (by rfl) m_isinstance PyProof.Rows.boot_isinstance (pa_cons (pv 0) (pa_cons (pe_bltn (v := .ty "int") (by rfl) m_int (by decide +kernel) rfl) pa_nil))) (pe_and (pe_not (pe_callB call_isi (by rfl) m_isinstance PyProof.Rows.boot_isinstance (pa_cons (pv 0) (pa_cons (pe_bltn (v := .ty "bool") (by rfl) m_bool (by decide +kernel) rfl) pa_nil)))) (pe_and (pe_cmpR op_ge (pv 0) pe_int (nomark _)) (pe_one (pe_cmpR op_le (pv 0) pe_int (nomark _)))))))), ?_⟩
    refine Evl.s_ret (v := .bl (wholeB v 0 1000000)) ?_ fun H1 e1 => hQ H1 e1
    rw [wholeB_of]
    refine Evl.ev_andV (Evl.ev_cb (Evl.ea_cons (Evl.ev_var rfl) (Evl.ea_cons Evl.ev_c Evl.ea_nil)) (rc_isI hA)) fun h1 => Evl.ev_andV (Evl.ev_notV (Evl.ev_cb (Evl.ea_cons (Evl.ev_var rfl) (Evl.ea_cons Evl.ev_c Evl.ea_nil)) (rc_isB hA))) fun h2 => ?_
    obtain ⟨i, rfl⟩ := int_of h1 (by simpa using h2)
    exact Evl.ev_andV (Evl.ev_op (Evl.ev_var rfl) Evl.ev_c Evl.rv_I0) fun _ => Evl.ev_op (Evl.ev_var rfl) Evl.ev_c Evl.rv_I0
theorem ok_told {f CT pg pn fg fn : Addr} {fd fdg fdn : FuncData} (F : Fun K "_law_told" "_law_told" s_law_told f fd) (c_Table : Cls K CT)
    (pr_Table_goods : PropOf K CT "goods" pg fg) (G_Table_goods : FnOk P w K mg base CX0 1 fg fdg ["self"] (sp_tgoods CT)) (b_Table_goods : Binds K fdg ["self"] [])
    (pr_Table_numbers : PropOf K CT "numbers" pn fn) (G_Table_numbers : FnOk P w K mg base CX0 1 fn fdn ["self"] (sp_tnumbers CT)) (b_Table_numbers : Binds K fdn ["self"] []) : FnOk P w K mg base CX0 3 f fd ["_law_table"] (sp_told CT) := by
  refine F.ok sc_law_told (fun vs H Q E h => ?_) (fun cdv A outer s H vs Q E hr h => ?_)
  · obtain ⟨x, ws, zs, rfl, _⟩ := h
    rfl
  · obtain ⟨x, ws, zs, rfl, hT, hQ⟩ := h
    refine ⟨_, (pss_one (ps_ret (pe_lst (pa_cons pe_str (pa_cons (pe_prop (pv 0) c_Table pr_Table_goods G_Table_goods (hr.mono (by decide)) b_Table_goods .nil pass0 rfl) (pa_cons (pe_prop (pv 0) c_Table pr_Table_numbers G_Table_numbers (hr.mono (by decide)) b_Table_numbers .nil pass0 rfl) pa_nil)))))), ?_⟩
    obtain ⟨dx, g, d, n, h1, h2, h3, h4⟩ := id hT
    refine ⟨.ref x, rfl, x, dx, _, rfl, h1, ⟨x, ws, zs, rfl, hT, fun g1 H1 e1 hg1 => ?_⟩⟩
    refine ⟨.ref x, rfl, x, dx, _, rfl, e1 _ _ h1, ⟨x, ws, zs, rfl, hT.ex e1, fun n1 H2 e2 hn1 => ?_⟩⟩
    refine ⟨by show (3 : Nat) ≤ sizeLine; decide, fun l nl => ?_⟩
    exact hQ l g1 n1 _ ((e1.trans e2).trans (Evl.Ex.new nl)) (Evl.fresh_back (e1.trans e2) nl) upd_same ((Evl.Ex.new nl) _ _ (e2 _ _ hg1)) ((Evl.Ex.new nl) _ _ hn1)
end
end Lw

namespace Lw
open PySem PySem.Spec PyProof.Rows L2
/-- which error is which -/
structure WhoT (K : PySem.W.Frag) (c : CTs) : Prop where
  bb : PySem.W.exmOne K (.ref c.CB) (.ref c.CB) = some true
  nb : PySem.W.exmOne K (.ref c.CN) (.ref c.CB) = some false
  nn : PySem.W.exmOne K (.ref c.CN) (.ref c.CN) = some true
  wb : PySem.W.exmOne K (.ref c.CW) (.ref c.CB) = some false
  wn : PySem.W.exmOne K (.ref c.CW) (.ref c.CN) = some false
  ww : PySem.W.exmOne K (.ref c.CW) (.ref c.CW) = some true
/-- what a plan makes of the cap -/
def capP (plan : Nat) (n : Nat) (m : V) : V := if plan = 0 then .int (n : Int) else if plan = 1 then .int 1 else m
def ToldAt (p : Addr) (kvs : List (L2.Key × V)) (ks : List Str) (m : V) (H : Hp) : Prop := match sres kvs ks m with
  | .cnt v => H p = some (.lst [.str "count", v, .bl (isBl v)])
  | .nm s => H p = some (.lst [.str "name", .str s])
  | .tw _ => False
  | .worth v => H p = some (.lst [.str "worth", v, .bl (isBl v)])
  | .fall _ _ => False
  | .ok => ∃ g n, H p = some (.lst [.str "table", .ref g, .ref n]) ∧ H g = some (.tup ((srt ks).map V.str)) ∧ H n = some (.tup ((rowS kvs (srt ks) (toI m).toNat).map V.int))
def sp_tmade : Sp := fun vs H Q _ => ∃ (plan : Nat) (d : Addr) (m : V) (kvs : List (L2.Key × V)) (ks : List Str), vs = [.int (plan : Int), .ref d, m] ∧ plan ≤ 2 ∧ H d = some (.dK kvs) ∧ KD kvs ks ∧ ks.Nodup ∧ TxtOk ks ∧ ks.length ≤ 60 ∧ (∀ p ∈ kvs, AmX H p.2) ∧ AmX H m ∧
  ∀ p H1, Evl.Ex H H1 → H p = none → ToldAt p kvs ks (capP plan ks.length m) H1 → Q (.ref p) H1
theorem suite2 {σ : L2.St} {H : Hp} {a d C : Addr} {tag f : Str} {y : V} {C' : Addr} {i : Nat} {D : Ends} (hd : H d = some (.xd [(f, y)])) (hi : σ[i]? = some (some (.ref a))) (hC : C' = C)
    (k : ∀ p, H p = none → D.rt (.ref p) (upd H p (.lst [.str tag, y]))) : tRet (tLst (tCons (tC (.str tag)) (tCons (tXf a (.ref C) (some d) C' f (tVar i)) tNil))) D σ H := by
  subst hC
  exact ⟨_, hi, rfl, rfl, d, _, y, rfl, hd, by simp [List.lookup], by show (2 : Nat) ≤ sizeLine; decide, k⟩
theorem suite3 {K : PySem.W.Frag} {σ : L2.St} {H : Hp} {a d C : Addr} {tag f : Str} {y : V} {C' : Addr} {i : Nat} {D : Ends} (hd : H d = some (.xd [(f, y)])) (hy : AmX H y) (hi : σ[i]? = some (some (.ref a))) (hC : C' = C)
    (k : ∀ p, H p = none → D.rt (.ref p) (upd H p (.lst [.str tag, y, .bl (isBl y)]))) :
    tRet (tLst (tCons (tC (.str tag)) (tCons (tXf a (.ref C) (some d) C' f (tVar i)) (tCons (tCB (rIsi K) (tCons (tXf a (.ref C) (some d) C' f (tVar i)) (tCons (tC (.ty "bool")) tNil))) tNil)))) D σ H := by
  subst hC
  obtain ⟨t, h1, h2, _⟩ := hy.ty (K := K)
  exact ⟨_, hi, rfl, rfl, d, _, y, rfl, hd, by simp [List.lookup], _, hi, rfl, rfl, d, _, y, rfl, hd, by simp [List.lookup], y, .ty "bool", .type t, .type "bool", _, rfl, .ty _, h1, h2, by show (3 : Nat) ≤ sizeLine; decide, k⟩
theorem TabN.at {CT y : Addr} {ws : List Str} {zs : List Int} {H H1 : Hp} (h : TabN CT y ws zs H H1) : TabAt CT y ws zs H1 := by
  obtain ⟨dx, g, d, n, _, _, _, _, h1, h2, h3, h4⟩ := h
  exact ⟨dx, g, d, n, h1, h2, h3, h4⟩
theorem worst_in {kvs : List (L2.Key × V)} {ws : List Str} {s : Str} (h : worstA kvs ws = some s) : s ∈ ws := List.mem_of_find?_eq_some h
theorem sres_tw {kvs : List (L2.Key × V)} {ks : List Str} {m : V} (hn : ks.Nodup) {s : Str} : sres kvs ks m ≠ .tw s := by
  unfold sres
  have := gres_tw hn s
  cases hg : gres (srt ks) with
  | cnt => intro e; cases e
  | nm s => intro e; cases e
  | tw z =>
    intro e
    cases e
    exact this hg
  | ok =>
    dsimp only
    cases worstA kvs (srt ks) with
    | some s => intro e; cases e
    | none =>
      dsimp only
      by_cases hw : wholeB m 0 (ks.length : Int) = true
      · rw [if_pos hw]
        unfold wres
        split
        · split
          · intro e; cases e
          · split <;> (intro e; cases e)
        · intro e; cases e
      · rw [if_neg hw]
        intro e; cases e
/-- what an error of a table holds -/
theorem sres_am {kvs : List (L2.Key × V)} {ks : List Str} {m : V} {H : Hp} (hk : KD kvs ks) (hA : ∀ p ∈ kvs, AmX H p.2) (hM : AmX H m) : (∀ v, sres kvs ks m = .cnt v → AmX H v) ∧ (∀ v, sres kvs ks m = .worth v → AmX H v) := by
  unfold sres
  cases hg : gres (srt ks) with
  | cnt => exact ⟨(fun v e => by cases e; exact .inl ⟨_, rfl⟩), (fun v e => by cases e)⟩
  | nm s => exact ⟨(fun v e => by cases e), (fun v e => by cases e)⟩
  | tw s => exact ⟨(fun v e => by cases e), (fun v e => by cases e)⟩
  | ok =>
    dsimp only
    cases hw : worstA kvs (srt ks) with
    | some s => exact ⟨(fun v e => by cases e), (fun v e => by cases e; exact hk.amX hA (srt_mem.mp (worst_in hw)))⟩
    | none =>
      dsimp only
      by_cases hb : wholeB m 0 (ks.length : Int) = true
      · rw [if_pos hb]
        unfold wres
        split
        · split
          · rename_i v hv
            refine ⟨(fun v e => by cases e), fun v e => ?_⟩
            cases e
            obtain ⟨i, _, rfl⟩ := List.mem_map.mp (List.mem_of_find?_eq_some hv)
            exact .inl ⟨_, rfl⟩
          · split <;> exact ⟨(fun v e => by cases e), (fun v e => by cases e)⟩
        · exact ⟨(fun v e => by cases e; exact .inl ⟨_, rfl⟩), (fun v e => by cases e)⟩
      · rw [if_neg hb]
        exact ⟨(fun v e => by cases e; exact hM), (fun v e => by cases e)⟩
abbrev s_law_made : Stmt := topS 47
abbrev n_law_made : List Str := ["_law_plan", "_law_given", "_law_many", "e"]
theorem sc_law_made : FnScope n_law_made ["_law_plan", "_law_given", "_law_many"] (defScope s_law_made) := ⟨rfl, rfl, rfl, by decide +kernel, rfl, by decide +kernel, by decide +kernel⟩
section
variable {P : Program} {w : World} {K : PySem.W.Frag} {mg : Str → Option Value} {base : Heap}
theorem ok_made {c : CTs} {f fs fp fo ft ps pp po : Addr} {fd fds fdp fdo fdt : FuncData} {mc : Value} (F : Fun K "_law_made" "_law_made" s_law_made f fd)
    (X_BadCount : XfC K c.CB) (X_BadName : XfC K c.CN) (X_BadWorth : XfC K c.CW) (no_BadCount : PySem.W.findIn K (.ref c.CB) "count" = some none) (no_BadName : PySem.W.findIn K (.ref c.CN) "name" = some none) (no_BadWorth : PySem.W.findIn K (.ref c.CW) "worth" = some none)
    (g_BadCount : mg "BadCount" = some (.ref c.CB)) (g_BadName : mg "BadName" = some (.ref c.CN)) (g_BadWorth : mg "BadWorth" = some (.ref c.CW)) (W : WhoT K c)
    (g_Table : mg "Table" = some (.ref c.CT)) (r_Table : ClX.CRead K c.CT mc)
    (cm_some : ClX.CMet K c.CT mc "some_of" ps fs) (b_some : Binds K fds ["cls", "amounts", "most"] []) (G_some : FnOk P w K mg base (L2.CX P w) 6 fs fds ["cls", "amounts", "most"] (sp_some c))
    (cm_plain : ClX.CMet K c.CT mc "plain" pp fp) (b_plain : Binds K fdp ["cls", "amounts"] []) (G_plain : FnOk P w K mg base (L2.CX P w) 7 fp fdp ["cls", "amounts"] (sp_plain c))
    (cm_one : ClX.CMet K c.CT mc "one_of" po fo) (b_one : Binds K fdo ["cls", "amounts"] []) (G_one : FnOk P w K mg base (L2.CX P w) 7 fo fdo ["cls", "amounts"] (sp_one c))
    (F_law_told : Fun K "_law_told" "_law_told" s_law_told ft fdt) (b_law_told : Binds K fdt ["_law_table"] []) (g_law_told : mg "_law_told" = some (.ref ft)) (G_law_told : FnOk P w K mg base CX0 3 ft fdt ["_law_table"] (sp_told c.CT))
    (noFall : ∀ (kvs : List (L2.Key × V)) (ks : List Str) (m : V) b j, sres kvs ks m ≠ .fall b j)
    (m_isinstance : mg "isinstance" = none) (m_bool : mg "bool" = none) : FnOk P w K mg base CX0 8 f fd ["_law_plan", "_law_given", "_law_many"] sp_tmade := by
  refine F.ok sc_law_made (fun vs H Q E h => ?_) (fun cdv A outer s H vs Q E hr h => ?_)
  · obtain ⟨plan, d, m, kvs, ks, rfl, _⟩ := h
    rfl
  · obtain ⟨plan, d, m, kvs, ks, rfl, hp2, hd, hk, hn, hT, hl, hA, hM, hQ⟩ := h
    refine ⟨_, (pss_one (ps_try_named rfl rfl sc_law_made.nd takes0 (fun W pn xe tk _ => (pss_cons (ps_if (pt_cmpR op_eq (pv 0) pe_int (nomark _))
   (pss_one (ps_ret (pe_call G_law_told (hr.mono (by decide)) (by rfl) g_law_told F_law_told.kp b_law_told .nil pass0 (pa_cons (pe_cmS (pe_cls (by rfl) g_Table) r_Table cm_plain G_plain (hr.mono (by decide)) b_plain (fun σ => passAt tk σ) (pa_cons (pv 1) pa_nil)) pa_nil))))
   pss_nil)
  (pss_cons (ps_if (pt_cmpR op_eq (pv 0) pe_int (nomark _))
   (pss_one (ps_ret (pe_call G_law_told (hr.mono (by decide)) (by rfl) g_law_told F_law_told.kp b_law_told .nil pass0 (pa_cons (pe_cmS (pe_cls (by rfl) g_Table) r_Table cm_one G_one (hr.mono (by decide)) b_one (fun σ => passAt tk σ) (pa_cons (pv 1) pa_nil)) pa_nil))))
   pss_nil)
  (pss_one (ps_ret (pe_call G_law_told (hr.mono (by decide)) (by rfl) g_law_told F_law_told.kp b_law_told .nil pass0 (pa_cons (pe_cmS (pe_cls (by rfl) g_Table) r_Table cm_some G_some (hr.mono (by decide)) b_some (fun σ => passAt tk σ) (pa_cons (pv 1) (pa_cons (pv 2) pa_nil))) pa_nil))))))) (.cons ⟨by rfl, by decide, .inl g_BadCount⟩ (i := 3) rfl rfl (fun a oe cls d pn hz hf => (pss_one (ps_ret (pe_lst (pa_cons pe_str (pa_cons (pe_xf X_BadCount no_BadCount hz hf (pv 3)) (pa_cons (pe_callB (k_isi K) (by rfl) m_isinstance PyProof.Rows.boot_isinstance (pa_cons (pe_xf X_BadCount no_BadCount hz hf (pv 3)) (pa_cons (pe_bltn (v := .ty "bool") (by rfl) m_bool (by decide +kernel) rfl) pa_nil))) pa_nil))))))) (.cons ⟨by rfl, by decide, .inl g_BadName⟩ (i := 3) rfl rfl (fun a oe cls d pn hz hf => (pss_one (ps_ret (pe_lst (pa_cons pe_str (pa_cons (pe_xf X_BadName no_BadName hz hf (pv 3)) pa_nil)))))) (.cons ⟨by rfl, by decide, .inl g_BadWorth⟩ (i := 3) rfl rfl (fun a oe cls d pn hz hf => (pss_one (ps_ret (pe_lst (pa_cons pe_str (pa_cons (pe_xf X_BadWorth no_BadWorth hz hf (pv 3)) (pa_cons (pe_callB (k_isi K) (by rfl) m_isinstance PyProof.Rows.boot_isinstance (pa_cons (pe_xf X_BadWorth no_BadWorth hz hf (pv 3)) (pa_cons (pe_bltn (v := .ty "bool") (by rfl) m_bool (by decide +kernel) rfl) pa_nil))) pa_nil))))))) .nil))))), ?_⟩
    have hkl : kvs.length = ks.length := hk.len
    have go : ∀ (m' : V) (H1 : Hp), Evl.Ex H H1 → AmX H1 m' → (∀ p H2, Evl.Ex H1 H2 → H1 p = none → ToldAt p kvs ks m' H2 → Q (.ref p) H2) → ∀ {E1 : XK},
        (∀ H2 d v, Evl.Ex H1 H2 → H2 d = some (.xd [("count", v)]) → AmX H2 v → (∀ p, H2 p = none → Q (.ref p) (upd H2 p (.lst [.str "count", v, .bl (isBl v)]))) → E1 (.ref c.CB) (some d) H2) →
        (∀ H2 d s, Evl.Ex H1 H2 → H2 d = some (.xd [("name", .str s)]) → (∀ p, H2 p = none → Q (.ref p) (upd H2 p (.lst [.str "name", .str s]))) → E1 (.ref c.CN) (some d) H2) →
        (∀ H2 d v, Evl.Ex H1 H2 → H2 d = some (.xd [("worth", v)]) → AmX H2 v → (∀ p, H2 p = none → Q (.ref p) (upd H2 p (.lst [.str "worth", v, .bl (isBl v)]))) → E1 (.ref c.CW) (some d) H2) →
        errAt c (srt ks) (Evl.Ex H1) E1 (∀ y H2, Evl.Ex H1 H2 → TabN c.CT y (srt ks) (rowS kvs (srt ks) (toI m').toNat) H1 H2 → sp_told c.CT [.ref y] H2 Q E0) (sres kvs ks m') := fun m' H1 e1 hm hq {E1} kB kN kW => by
      have am := sres_am (H := H1) hk (fun p hp => (hA p hp).ex e1) hm
      cases hr : sres kvs ks m' with
      | cnt v => exact fun H2 d e2 hd2 => kB H2 d v e2 hd2 ((am.1 v hr).ex e2) fun p np => hq p _ (e2.trans (Evl.Ex.new np)) (Evl.fresh_back e2 np) (by rw [ToldAt, hr]; exact upd_same)
      | nm s => exact fun H2 d e2 hd2 => kN H2 d s e2 hd2 fun p np => hq p _ (e2.trans (Evl.Ex.new np)) (Evl.fresh_back e2 np) (by rw [ToldAt, hr]; exact upd_same)
      | tw s => exact absurd hr (sres_tw hn)
      | worth v => exact fun H2 d e2 hd2 => kW H2 d v e2 hd2 ((am.2 v hr).ex e2) fun p np => hq p _ (e2.trans (Evl.Ex.new np)) (Evl.fresh_back e2 np) (by rw [ToldAt, hr]; exact upd_same)
      | fall b j => exact absurd hr (noFall kvs ks m' b j)
      | ok => exact fun y H2 e2 ht => ⟨y, srt ks, rowS kvs (srt ks) (toI m').toNat, rfl, ht.at, fun p g n H3 e3 np hp hg hn => hq p H3 (e2.trans e3) (Evl.fresh_back e2 np) (by rw [ToldAt, hr]; exact ⟨g, n, hp, hg, hn⟩)⟩
    refine Evl.q_when (b := decide (V.int (plan : Int) = V.int 0)) (Evl.et_test (Evl.ev_op (Evl.ev_var rfl) Evl.ev_c (Evl.rv_eq rfl))) (fun hb H1 e1 => ?_) (fun hb H1 e1 => ?_)
    · have h0 : plan = 0 := by simpa using hb
      subst h0
      exact ⟨rfl, .ref d, rfl, d, kvs, rfl, e1 _ _ hd, d, .int (kvs.length : Int), kvs, ks, rfl, e1 _ _ hd, hk, hT, hl, fun p hp => (hA p hp).ex e1, .inl ⟨_, rfl⟩, go _ H1 e1 (.inl ⟨_, rfl⟩) (fun p H2 e2 np ht => hQ p H2 (e1.trans e2) (Evl.fresh_back e1 np) (by rw [hkl] at ht; exact ht)) (fun H2 d v e2 hd2 hv hq2 => ⟨true, W.bb, fun _ a na => suite3 hd2 hv rfl rfl fun p np => hq2 p np, (fun h => nomatch h)⟩) (fun H2 d s e2 hd2 hq2 => ⟨false, W.nb, (fun h => nomatch h), fun _ => ⟨true, W.nn, fun _ a na => suite2 hd2 rfl rfl fun p np => hq2 p np, (fun h => nomatch h)⟩⟩) (fun H2 d v e2 hd2 hv hq2 => ⟨false, W.wb, (fun h => nomatch h), fun _ => ⟨false, W.wn, (fun h => nomatch h), fun _ => ⟨true, W.ww, fun _ a na => suite3 hd2 hv rfl rfl fun p np => hq2 p np, (fun h => nomatch h)⟩⟩⟩)⟩
    · have h0 : plan ≠ 0 := by simpa using hb
      refine Evl.q_when (b := decide (V.int (plan : Int) = V.int 1)) (Evl.et_test (Evl.ev_op (Evl.ev_var rfl) Evl.ev_c (Evl.rv_eq rfl))) (fun hb2 H2 e2 => ?_) (fun hb2 H2 e2 => ?_)
      · have h1 : plan = 1 := by
          have : (plan : Int) = 1 := by simpa using hb2
          omega
        subst h1
        have e12 := e1.trans e2
        exact ⟨rfl, .ref d, rfl, d, rfl, d, .int 1, kvs, ks, rfl, e12 _ _ hd, hk, hT, hl, fun p hp => (hA p hp).ex e12, .inl ⟨_, rfl⟩, go _ H2 e12 (.inl ⟨_, rfl⟩) (fun p H3 e3 np ht => hQ p H3 (e12.trans e3) (Evl.fresh_back e12 np) ht) (fun H2 d v e2 hd2 hv hq2 => ⟨true, W.bb, fun _ a na => suite3 hd2 hv rfl rfl fun p np => hq2 p np, (fun h => nomatch h)⟩) (fun H2 d s e2 hd2 hq2 => ⟨false, W.nb, (fun h => nomatch h), fun _ => ⟨true, W.nn, fun _ a na => suite2 hd2 rfl rfl fun p np => hq2 p np, (fun h => nomatch h)⟩⟩) (fun H2 d v e2 hd2 hv hq2 => ⟨false, W.wb, (fun h => nomatch h), fun _ => ⟨false, W.wn, (fun h => nomatch h), fun _ => ⟨true, W.ww, fun _ a na => suite3 hd2 hv rfl rfl fun p np => hq2 p np, (fun h => nomatch h)⟩⟩⟩)⟩
      · have h1 : plan = 2 := by
          have : ¬ (plan : Int) = 1 := by simpa using hb2
          omega
        subst h1
        have e12 := e1.trans e2
        exact ⟨rfl, .ref d, rfl, m, rfl, d, m, kvs, ks, rfl, e12 _ _ hd, hk, hT, hl, fun p hp => (hA p hp).ex e12, hM.ex e12, go _ H2 e12 (hM.ex e12) (fun p H3 e3 np ht => hQ p H3 (e12.trans e3) (Evl.fresh_back e12 np) ht) (fun H2 d v e2 hd2 hv hq2 => ⟨true, W.bb, fun _ a na => suite3 hd2 hv rfl rfl fun p np => hq2 p np, (fun h => nomatch h)⟩) (fun H2 d s e2 hd2 hq2 => ⟨false, W.nb, (fun h => nomatch h), fun _ => ⟨true, W.nn, fun _ a na => suite2 hd2 rfl rfl fun p np => hq2 p np, (fun h => nomatch h)⟩⟩) (fun H2 d v e2 hd2 hv hq2 => ⟨false, W.wb, (fun h => nomatch h), fun _ => ⟨false, W.wn, (fun h => nomatch h), fun _ => ⟨true, W.ww, fun _ a na => suite3 hd2 hv rfl rfl fun p np => hq2 p np, (fun h => nomatch h)⟩⟩⟩)⟩
end
end Lw

namespace Lw
open PySem PySem.Spec PyProof.Rows L2
theorem wI_rowS {kvs : List (L2.Key × V)} {ws : List Str} {m : Nat} (hn : ws.length < 6) {b : List Nat} (hb : b ∈ allI ws.length) : wI ws.length (rowS kvs ws m) b = sums kvs (bagI ws b) m := by
  have h0 : sums kvs (bagI ws []) m = 0 := by
    unfold sums bagI dsc
    simp
  have e : (0 :: rowS kvs ws m) = (allI ws.length).map fun b => sums kvs (bagI ws b) m := by
    conv => rhs; rw [all_head ws.length hn]
    rw [List.map_cons, h0]
    rfl
  unfold wI
  rw [e]
  have hi := List.idxOf_lt_length_iff.mpr hb
  rw [List.getD_eq_getElem?_getD, List.getElem?_map, List.getElem?_eq_getElem hi]
  simp
theorem rest_not {n : Nat} {b : List Nat} {j : Nat} (h : j ∈ restI n b) : j < n := List.mem_range.mp (List.mem_filter.mp h).1
theorem noFall : ∀ (kvs : List (L2.Key × V)) (ks : List Str) (m : V) b j, sres kvs ks m ≠ .fall b j := by
  intro kvs ks m b j h
  unfold sres at h
  cases hg : gres (srt ks) with
  | cnt => rw [hg] at h; cases h
  | nm s => rw [hg] at h; cases h
  | tw s => rw [hg] at h; cases h
  | ok =>
    rw [hg] at h
    dsimp only at h
    cases hw : worstA kvs (srt ks) with
    | some s => rw [hw] at h; cases h
    | none =>
      rw [hw] at h
      dsimp only at h
      split at h
      · have hn : (srt ks).length < 6 := by
          obtain ⟨⟨_, h5⟩, _⟩ := gres_ok.mp hg
          omega
        unfold wres at h
        split at h
        · split at h
          · cases h
          · rw [toI_map] at h
            have nf : fallI (srt ks).length (rowS kvs (srt ks) (toI m).toNat) (allI (srt ks).length) = none := by
              unfold fallI
              rw [List.findSome?_eq_none_iff]
              intro b hb
              rw [List.findSome?_eq_none_iff]
              intro j hj
              have hi := ins_in (srt ks).length hn b hb j (rest_not hj)
              rw [wI_rowS hn hb, wI_rowS hn hi, if_neg]
              refine Int.not_lt.mpr ?_
              have hp := ins_perm (srt ks).length hn b hb j hj
              unfold sums
              have e1 : dsc ((bagI (srt ks) (insI (srt ks).length b j)).map fun s => toI (amt kvs s)) = dsc (toI (amt kvs (fI (srt ks) j)) :: (bagI (srt ks) b).map fun s => toI (amt kvs s)) := by
                refine dsc_perm ?_
                have := (hp.map (fI (srt ks))).map fun s => toI (amt kvs s)
                exact this
              rw [e1]
              refine dsc_take ?_ _ _
              have hs : fI (srt ks) j ∈ srt ks := by
                rw [ws_eq (srt ks)]
                exact List.mem_map.mpr ⟨j, List.mem_range.mpr (rest_not hj), by rw [← ws_eq (srt ks)]⟩
              have := List.find?_eq_none.mp hw _ hs
              revert this
              cases amt kvs (fI (srt ks) j) <;> simp [wholeB, toI]
              intro h1 _
              exact h1
            rw [nf] at h
            cases h
        · cases h
      · cases h
end Lw

namespace Lw
open PySem PySem.Spec PyProof.Rows L2
abbrev s_law_bundles : Stmt := topS 43
abbrev n_law_bundles : List Str := ["_law_goods", "_law_found", "_law_label", "_law_bundle", "_law_pair"]
theorem sc_law_bundles : FnScope n_law_bundles ["_law_goods"] (defScope s_law_bundles) := ⟨rfl, rfl, rfl, by decide +kernel, rfl, by decide +kernel, by decide +kernel⟩
section
variable {P : Program} {w : World} {K : PySem.W.Frag} {mg : Str → Option Value} {base : Heap}
def sp_lbun (K : PySem.W.Frag) : Sp := fun vs H Q _ => ∃ (a : Addr) (ws : List Str), vs = [.ref a] ∧ SqL K H a (ws.map V.str) ∧ Inc ws ∧ TxtOk ws ∧ ws.length ≤ 5 ∧ ∀ p us H2, Evl.Ex H H2 → H p = none → H2 p = some (.lst us) → Bags H2 us ((allI ws.length).map (bagI ws)) → Q (.ref p) H2
theorem ok_lbun {f : Addr} {fd : FuncData} {k : Nat} (F : Fun K "_law_bundles" "_law_bundles" s_law_bundles f fd) (m_len : mg "len" = none) (m_sorted : mg "sorted" = none) : FnOk P w K mg base CX0 (k + 1) f fd ["_law_goods"] (sp_lbun K) := by
  refine F.ok sc_law_bundles (fun vs H Q E h => ?_) (fun cdv A outer s H vs Q E hr h => ?_)
  · obtain ⟨a, ws, rfl, _⟩ := h
    rfl
  · obtain ⟨a, ws, rfl, hS, hI, hT, hL, hQ⟩ := h
    have hn : ws.length < 6 := by omega
    refine ⟨_, (pss_cons (ps_set (i := 1) sc_law_bundles.nd rfl (by first | exact .inl rfl | exact .inr rfl) (pe_lst (pa_cons (pe_tup pa_nil) pa_nil)))
  (pss_cons (ps_for PassesOwn.never rfl  (pi_list (pv 0)) (pg_name (i := 2) sc_law_bundles.nd rfl (by first | exact .inl rfl | exact .inr rfl))
   (pss_one (ps_set (i := 1) sc_law_bundles.nd rfl (by first | exact .inl rfl | exact .inr rfl) (pe_op op_cat (pv 1) (pe_lc (own := [("_law_bundle", 3)]) (g := gName 3) (by rfl) sc_law_bundles.nd (pi_list (pv 1)) (blkOk_by (own := [("_law_bundle", 3)]) (N := n_law_bundles) (sc := defScope s_law_bundles) (by decide +kernel)) (fun _ _ _ _ _ => pg_name (i := 3) sc_law_bundles.nd rfl (by first | exact .inl rfl | exact .inr rfl)) (fun _ _ _ _ _ => pts_nil) (fun _ _ _ _ _ => (pe_op (k_catA K) (pv 3) (pe_tup (pa_cons (pv 2) pa_nil)))))))))
  (pss_one (ps_ret (pe_lc (own := [("_law_pair", 4)]) (g := gName 4) (by rfl) sc_law_bundles.nd (pi_list (pe_callB (cr_sortedM hr.units) (by rfl) m_sorted (by decide +kernel) (pa_cons (pe_lc (own := [("_law_bundle", 3)]) (g := gName 3) (by rfl) sc_law_bundles.nd (pi_list (pv 1)) (blkOk_by (own := [("_law_bundle", 3)]) (N := n_law_bundles) (sc := defScope s_law_bundles) (by decide +kernel)) (fun _ _ _ _ _ => pg_name (i := 3) sc_law_bundles.nd rfl (by first | exact .inl rfl | exact .inr rfl)) (fun _ _ _ _ _ => pts_nil) (fun _ _ _ _ _ => (pe_tup (pa_cons (pe_callB (k_len K) (by rfl) m_len PySem.boot_len (pa_cons (pv 3) pa_nil)) (pa_cons (pv 3) pa_nil))))) pa_nil))) (blkOk_by (own := [("_law_pair", 4)]) (N := n_law_bundles) (sc := defScope s_law_bundles) (by decide +kernel)) (fun _ _ _ _ _ => pg_name (i := 4) sc_law_bundles.nd rfl (by first | exact .inl rfl | exact .inr rfl)) (fun _ _ _ _ _ => pts_nil) (fun _ _ _ _ _ => (pe_ix (k_ixT K) (pv 4) pe_int (fun _ _ => rfl)))))))), ?_⟩
    refine ⟨Nat.zero_le _, fun e ne => ⟨by show 1 ≤ sizeLine; decide, fun L nL => ?_⟩⟩
    have e1 := Evl.Ex.new (H := H) (o := .tup []) ne
    have e2 := Evl.Ex.new (o := .lst [.ref e]) nL
    dsimp only [gName]
    refine Evl.q_forL (xs := ws.map V.str) (Evl.ev_var rfl) (Evl.ex_l (e1.trans e2) hS) (fun i σ' H' => ∃ fd vs o2, σ' = [some (.ref a), some (.ref fd), o2, none, none] ∧ Evl.Ex H H' ∧ H' fd = some (.lst vs) ∧ Bags H' vs ((fndI i).map (bagI ws)))
      (fun H1 e3 => ⟨L, [.ref e], _, rfl, (e1.trans e2).trans e3, e3 _ _ upd_same, ⟨e, rfl, e3 _ _ (e2 _ _ upd_same)⟩, trivial⟩) (fun i σ' H' _ ⟨_, _, _, _, eH, _⟩ => Evl.ex_l eH hS) (fun i x σ' H' hx ⟨fd, vs, o2, es, eH, hf, hB⟩ => ?_) (fun σ' H' ⟨fd, vs, o2, es, eH, hf, hB⟩ => ?_)
    · subst es
      rw [List.getElem?_map] at hx
      obtain ⟨z, hz, rfl⟩ := Option.map_eq_some_iff.mp hx
      have hi := (List.getElem?_eq_some_iff.mp hz).1
      have hzf := fI_at hz
      have hfi := fnd_in i (by omega)
      have vsl : vs.length = (fndI i).length := by rw [hB.len, List.length_map]
      refine ⟨.ref fd, rfl, .ref fd, rfl, fd, rfl, ⟨vs, Evl.sq_of hf⟩, ?_⟩
      refine lc1_rels (σ := [some (.ref a), some (.ref fd), some (.str z), none, none]) (j := 3) (vs := [3]) (R := BagAt) (fun e h => h.ex e) (fun hp h => h.put hp) ((fndI i).map fun b => bagI ws (b ++ [i])) (Evl.sq_of hf) (by rw [List.length_map, vsl]) (by omega) (fun _ => rfl) (fun j x d H3 hx hd e3 Q q => ?_) (fun p acc H3 np e3 hp hacc => ?_)
      · obtain ⟨c, hc, ax, rfl, hax⟩ := hB.at hx
        rw [List.getElem?_map] at hc hd
        obtain ⟨b, hb, rfl⟩ := Option.map_eq_some_iff.mp hc
        rw [hb] at hd
        cases hd
        have hax3 := e3 _ _ hax
        have hbl := (hfi.2 b (List.mem_of_getElem? hb)).1
        have hbd : (bagI ws (b ++ [i])).map V.str = (bagI ws b).map V.str ++ [.str z] := by
          unfold bagI
          rw [List.map_append, List.map_append, ← hzf]
          rfl
        refine ⟨.ref ax, rfl, .str z, rfl, by show 1 ≤ sizeLine; decide, fun p np => ⟨ax, p, (bagI ws b).map V.str, [.str z], rfl, rfl, Evl.st_of ((Evl.Ex.new np) _ _ hax3), Evl.st_of upd_same, ?_, fun h0 => ?_, (fun _ h => nomatch h), fun _ _ r nr => ?_⟩⟩
        · unfold bagI
          simp only [List.length_map, List.length_cons, List.length_nil]
          exact Evl.sz_of (by omega)
        · refine q _ _ (Evl.Ex.new np) ⟨p, rfl, ?_⟩
          rw [hbd, h0]
          exact upd_same
        · refine q _ _ ((Evl.Ex.new np).trans (Evl.Ex.new nr)) ⟨r, rfl, ?_⟩
          rw [hbd]
          exact upd_same
      · have hacc' := hacc.len
        rw [List.length_map] at hacc'
        refine ⟨fd, p, vs, acc, rfl, rfl, e3 _ _ hf, hp, Evl.sz_of (by omega), fun q nq => ?_⟩
        refine ⟨q, _, _, rfl, (eH.trans e3).trans (Evl.Ex.new nq), upd_same, ?_⟩
        rw [fndI, List.map_append, List.map_map]
        exact ((hB.ex e3).append (bags_rels.mpr hacc)).ex (Evl.Ex.new nq)
    · subst es
      rw [List.length_map] at hB
      have hfi := fnd_in ws.length hn
      have vsl : vs.length = (fndI ws.length).length := by rw [hB.len, List.length_map]
      refine ⟨.ref fd, rfl, fd, rfl, ⟨vs, Evl.sq_of hf⟩, ?_⟩
      refine lc1_rels (σ := [some (.ref a), some (.ref fd), o2, none, none]) (j := 3) (vs := [3]) (R := PairAt ws) (fun e h => h.ex e) (fun hp h => h.put hp) (fndI ws.length) (Evl.sq_of hf) vsl.symm (by omega) (fun _ => rfl) (fun j x b H3 hx hb e3 Q q => ?_) (fun p acc H3 np e3 hp hacc => ?_)
      · obtain ⟨c, hc, ax, rfl, hax⟩ := hB.at hx
        rw [List.getElem?_map, hb] at hc
        cases hc
        have hax3 := e3 _ _ hax
        refine ⟨.ref ax, rfl, ax, _, rfl, .inr (Evl.st_of hax3), .ref ax, rfl, by show 2 ≤ sizeLine; decide, fun t nt => q _ _ (Evl.Ex.new nt) ⟨t, ax, rfl, ?_, (Evl.Ex.new nt) _ _ hax3⟩⟩
        rw [upd_same]
        unfold bagI
        simp only [List.length_map]
      · have hzl : acc.length = (fndI ws.length).length := hacc.len
        have hzs := hacc.zip_mem
        have hfst : (acc.zip (fndI ws.length)).map Prod.fst = acc := List.map_fst_zip (by omega)
        have hsnd : (acc.zip (fndI ws.length)).map (·.2) = fndI ws.length := List.map_snd_zip (by omega)
        have hgp : ∀ b : List Nat, (∀ i ∈ b, i < ws.length) → GoodD 2 (pairD ws b) := fun b hb => good_tuple (n := 1) fun d hd => by
          simp only [List.mem_cons, List.not_mem_nil, or_false] at hd
          rcases hd with rfl | rfl
          · exact good_int _
          · refine good_strsT fun y hy => ?_
            obtain ⟨i, hi, rfl⟩ := List.mem_map.mp hy
            rw [fI_at (List.getElem?_eq_getElem (hb i hi))]
            exact (hT _ (List.getElem_mem _)).2
        have hmem : ∀ q ∈ acc.zip (fndI ws.length), q.2 ∈ fndI ws.length := fun q hq => by
          rw [← hsnd]
          exact List.mem_map_of_mem hq
        refine ⟨V × List Nat, p, acc.zip (fndI ws.length), Prod.fst, fun q => pairD ws q.2, rfl, .inl (by rw [hfst]; exact Evl.sq_of hp), fun q hq => ?_, ?_, ?_, fun q hq => ?_, fun r nr => ?_⟩
        · obtain ⟨t, ax, h1, h2, h3⟩ := hzs q hq
          rw [h1]
          exact .tup (Evl.st_of h2) (.cons (.int _) (.cons (dp_strsT (Evl.st_of h3)) .nil))
        · exact PySem.W.AllAlike.of fun b b' => by simp [pairD, PySem.W.alike, PySem.W.alikeAll, alike_strs]
        · exact PySem.W.Sortable.tuples fun b => ⟨_, _, rfl⟩
        · exact Nat.le_trans (hgp q.2 (hfi.2 q.2 (hmem q hq)).2).2 (by decide)
        · refine ⟨r, rfl, ⟨_, Evl.sq_of upd_same⟩, ?_⟩
          have hsl : ((acc.zip (fndI ws.length)).mergeSort (PySem.W.dataLe false fun q => pairD ws q.2)).length = (fndI ws.length).length := by
            rw [List.length_mergeSort, List.length_zip]
            omega
          have hsorted := sort_pairs hI hn (acc.zip (fndI ws.length)) hsnd
          refine lc1_rels (σ := [some (.ref a), some (.ref fd), o2, none, none]) (j := 4) (vs := [4]) (R := BagAt) (fun e h => h.ex e) (fun hp h => h.put hp) (((acc.zip (fndI ws.length)).mergeSort (PySem.W.dataLe false fun q => pairD ws q.2)).map fun q => bagI ws q.2) (Evl.sq_of upd_same) (by rw [List.length_map, List.length_map]) (by rw [List.length_map, hsl]; omega) (fun _ => rfl) (fun j x d H4 hx hd e4 Q q => ?_) (fun p2 acc2 H4 np2 e4 hp2 hacc2 => ?_)
          · rw [List.getElem?_map] at hx hd
            obtain ⟨y, hy, rfl⟩ := Option.map_eq_some_iff.mp hx
            rw [hy] at hd
            cases hd
            obtain ⟨t, ax, h1, h2, h3⟩ := hzs y ((List.mergeSort_perm _ _).mem_iff.mp (List.mem_of_getElem? hy))
            have e5 := (Evl.Ex.new (o := .lst (((acc.zip (fndI ws.length)).mergeSort (PySem.W.dataLe false fun q => pairD ws q.2)).map Prod.fst)) nr).trans e4
            exact ⟨y.1, rfl, t, _, 1, .ref ax, h1, rfl, Evl.st_of (e5 _ _ h2), rfl, q _ _ (Evl.Ex.refl _) ⟨ax, rfl, e5 _ _ h3⟩⟩
          · refine hQ p2 acc2 H4 (((eH.trans e3).trans (Evl.Ex.new nr)).trans e4) (Evl.fresh_back ((eH.trans e3).trans (Evl.Ex.new nr)) np2) hp2 ?_
            rw [← hsorted, List.map_map]
            exact bags_rels.mpr hacc2
end
end Lw

namespace Lw
open PySem PySem.Spec PyProof.Rows L2
theorem cut1 {ub : List V} (h : 1 ≤ ub.length) : cutV ub (some 1) none = ub.drop 1 := by
  simp only [cutV, HT.sIx]
  rw [if_neg (by omega), Nat.min_eq_left (by show 1 ≤ ub.length; omega)]
  exact List.take_of_length_le (by rw [List.length_drop]; exact Nat.le_refl _)
theorem el_sortI {K : PySem.W.Frag} {te : TE} {σ : L2.St} {H : Hp} {is : List Int} (h : Evl.EvL te σ H (is.map V.int)) : Evl.EvL (tCB (rSortedM K) (tCons te tNil)) σ H ((asc is).map V.int) := fun H1 e Q k =>
  h H1 e _ fun a H2 na e2 ha => ⟨Int, a, is, V.int, PyData.int, rfl, .inl (Evl.sq_of ha), fun b _ => .int b, (alike_ints is).1, (alike_ints is).2, fun b _ => by simp [PyData.depth], fun r nr => by
    rw [leF]
    exact k r _ (Evl.fresh_back e2 nr) (e2.trans (Evl.Ex.new nr)) upd_same⟩
theorem el_takeV {K : PySem.W.Frag} {te th : TE} {σ : L2.St} {H : Hp} {a : Addr} {xs : List V} {m : Nat} (h : Evl.Ev te σ H (.ref a)) (ha : H a = some (.lst xs)) (hm : Evl.Ev th σ H (.int (m : Int))) : Evl.EvL (tSl (rSlL K) te tNoPart (tPart th)) σ H (xs.take m) := fun H1 e Q k =>
  h H1 e _ fun H2 e2 => hm H2 (e.trans e2) _ fun H3 e3 => ⟨m, rfl, a, xs, rfl, Evl.sq_of ((e.trans (e2.trans e3)) _ _ ha), fun r nr => by
    have hc : cutV xs none (some (m : Int)) = xs.take m := by
      unfold cutV
      simp only [HT.sIx, List.drop_zero, Nat.sub_zero]
      rw [if_neg (by omega), Int.toNat_natCast]
      exact List.take_eq_take_iff.mpr (by omega)
    rw [hc]
    exact k r _ (Evl.fresh_back (e2.trans e3) nr) ((e2.trans e3).trans (Evl.Ex.new nr)) upd_same⟩
theorem sres_ok {kvs : List (L2.Key × V)} {ks : List Str} {m : V} (hg : gres (srt ks) = .ok) (hw : worstA kvs (srt ks) = none) : sres kvs ks m = if wholeB m 0 (ks.length : Int) = true then wres (srt ks) ((rowS kvs (srt ks) (toI m).toNat).map V.int) else .cnt m := by
  unfold sres
  rw [hg]
  dsimp only
  rw [hw]
theorem sum_nonneg : ∀ {l : List Int}, (∀ z ∈ l, 0 ≤ z) → 0 ≤ l.sum
  | [], _ => by simp
  | x :: l, h => by
    have h1 := h x List.mem_cons_self
    have h2 := sum_nonneg (l := l) fun z hz => h z (List.mem_cons_of_mem _ hz)
    rw [List.sum_cons]
    omega
theorem sums_nonneg {kvs : List (L2.Key × V)} {ws b : List Str} {m : Nat} (hw : worstA kvs ws = none) (hb : ∀ s ∈ b, s ∈ ws) : 0 ≤ sums kvs b m := by
  refine sum_nonneg fun z hz => ?_
  have h1 := List.mem_of_mem_take hz
  have h2 := (List.mergeSort_perm _ _).mem_iff.mp h1
  obtain ⟨s, hs, rfl⟩ := List.mem_map.mp h2
  have := List.find?_eq_none.mp hw s (hb s hs)
  revert this
  cases amt kvs s <;> simp [wholeB, toI]
  intro h1 _
  exact h1
theorem bag_sub {ws : List Str} {b : List Nat} (hi : ∀ i ∈ b, i < ws.length) : ∀ s ∈ bagI ws b, s ∈ ws := fun s hs => by
  obtain ⟨i, h, rfl⟩ := List.mem_map.mp hs
  rw [ws_eq ws]
  exact List.mem_map.mpr ⟨i, List.mem_range.mpr (hi i h), by rw [← ws_eq ws]⟩
theorem wres_row {kvs : List (L2.Key × V)} {ks : List Str} {m : Nat} (hn : (srt ks).length < 6) {r : TR} (h : wres (srt ks) ((rowS kvs (srt ks) m).map V.int) = r) (nf : ∀ b j, r ≠ .fall b j) : r = match badW ((rowS kvs (srt ks) m).map V.int) with | some v => .worth v | none => .ok := by
  unfold wres at h
  rw [if_pos] at h
  · cases hb : badW ((rowS kvs (srt ks) m).map V.int) with
    | some v =>
      rw [hb] at h
      exact h.symm
    | none =>
      rw [hb] at h
      dsimp only at h
      split at h
      · exact absurd h.symm (nf _ _)
      · exact h.symm
  · have := (all_len (srt ks).length hn).1
    unfold rowS
    rw [List.length_map, List.length_map, List.length_drop]
    omega
abbrev s_law_due : Stmt := topS 48
abbrev n_law_due : List Str := ["_law_plan", "_law_given", "_law_many", "_law_ware", "_law_label", "_law_row", "_law_bag", "_law_counted", "_law_n"]
theorem sc_law_due : FnScope n_law_due ["_law_plan", "_law_given", "_law_many"] (defScope s_law_due) := ⟨rfl, rfl, rfl, by decide +kernel, rfl, by decide +kernel, by decide +kernel⟩
section
variable {P : Program} {w : World} {K : PySem.W.Frag} {mg : Str → Option Value} {base : Heap}
theorem ok_due {f f2 f3 f4 : Addr} {fd fd2 fd3 fd4 : FuncData} (F : Fun K "_law_due" "_law_due" s_law_due f fd)
    (F_law_good : Fun K "_law_good" "_law_good" s_law_good f2 fd2) (b_law_good : Binds K fd2 ["_law_word"] []) (g_law_good : mg "_law_good" = some (.ref f2)) (G_law_good : FnOk P w K mg base CX0 1 f2 fd2 ["_law_word"] sp_vn)
    (F_law_worth_ok : Fun K "_law_worth_ok" "_law_worth_ok" s_law_worth_ok f3 fd3) (b_law_worth_ok : Binds K fd3 ["_law_thing"] []) (g_law_worth_ok : mg "_law_worth_ok" = some (.ref f3)) (G_law_worth_ok : FnOk P w K mg base CX0 1 f3 fd3 ["_law_thing"] sp_worth)
    (F_law_bundles : Fun K "_law_bundles" "_law_bundles" s_law_bundles f4 fd4) (b_law_bundles : Binds K fd4 ["_law_goods"] []) (g_law_bundles : mg "_law_bundles" = some (.ref f4)) (G_law_bundles : FnOk P w K mg base CX0 1 f4 fd4 ["_law_goods"] (sp_lbun K))
    (m_len : mg "len" = none) (m_tuple : mg "tuple" = none) (m_sorted : mg "sorted" = none) (m_isinstance : mg "isinstance" = none) (m_bool : mg "bool" = none) (m_int : mg "int" = none) (m_sum : mg "sum" = none) : FnOk P w K mg base CX0 2 f fd ["_law_plan", "_law_given", "_law_many"] sp_tmade := by
  refine F.ok sc_law_due (fun vs H Q E h => ?_) (fun cdv A outer s H vs Q E hr h => ?_)
  · obtain ⟨plan, d, m, kvs, ks, rfl, _⟩ := h
    rfl
  · obtain ⟨plan, d, m, kvs, ks, rfl, hp2, hd, hk, hn, hT, hl, hA, hM, hQ⟩ := h
    refine ⟨_, (pss_cons (ps_set (i := 3) sc_law_due.nd rfl (by first | exact .inl rfl | exact .inr rfl) (pe_callB (call_sortedD rfl) (by rfl) m_sorted (by decide +kernel) (pa_cons (pv 1) pa_nil)))
  (pss_cons (ps_if (PW.pt (pw_or (pt_cmpR op_lt (pe_callB call_len_seq (by rfl) m_len PySem.boot_len (pa_cons (pv 3) pa_nil)) pe_int (nomark _)) (pw_or1 (pt_cmpR op_gt (pe_callB call_len_seq (by rfl) m_len PySem.boot_len (pa_cons (pv 3) pa_nil)) pe_int (nomark _)))))
   (pss_one (ps_ret (pe_lst (pa_cons pe_str (pa_cons (pe_callB call_len_seq (by rfl) m_len PySem.boot_len (pa_cons (pv 3) pa_nil)) (pa_cons pe_bl pa_nil))))))
   pss_nil)
  (pss_cons (ps_for PassesOwn.never rfl  (pi_list (pv 3)) (pg_name (i := 4) sc_law_due.nd rfl (by first | exact .inl rfl | exact .inr rfl))
   (pss_one (ps_if (pt_not (pt_val (pe_call G_law_good (hr.mono (by decide)) (by rfl) g_law_good F_law_good.kp b_law_good .nil pass0 (pa_cons (pv 4) pa_nil))))
   (pss_one (ps_ret (pe_lst (pa_cons pe_str (pa_cons (pv 4) pa_nil)))))
   pss_nil)))
  (pss_cons (ps_for PassesOwn.never rfl  (pi_list (pv 3)) (pg_name (i := 4) sc_law_due.nd rfl (by first | exact .inl rfl | exact .inr rfl))
   (pss_one (ps_if (pt_not (pt_val (pe_call G_law_worth_ok (hr.mono (by decide)) (by rfl) g_law_worth_ok F_law_worth_ok.kp b_law_worth_ok .nil pass0 (pa_cons (pe_dget (hu_of hr) (pv 1) (pv 4) (fun _ _ => rfl)) pa_nil))))
   (pss_one (ps_ret (pe_lst (pa_cons pe_str (pa_cons (pe_dget (hu_of hr) (pv 1) (pv 4) (fun _ _ => rfl)) (pa_cons (pe_callB call_isi (by rfl) m_isinstance PyProof.Rows.boot_isinstance (pa_cons (pe_dget (hu_of hr) (pv 1) (pv 4) (fun _ _ => rfl)) (pa_cons (pe_bltn (v := .ty "bool") (by rfl) m_bool (by decide +kernel) rfl) pa_nil))) pa_nil))))))
   pss_nil)))
  (pss_cons (ps_if (PW.pt (pw_and (pt_cmpR op_eq (pv 0) pe_int (nomark _)) (pw_and1 (PW.pt (pw_or (pt_not (pt_val (pe_callB call_isi (by rfl) m_isinstance PyProof.Rows.boot_isinstance (pa_cons (pv 2) (pa_cons (pe_bltn (v := .ty "int") (by rfl) m_int (by decide +kernel) rfl) pa_nil))))) (pw_or1 (pt_val (pe_callB call_isi (by rfl) m_isinstance PyProof.Rows.boot_isinstance (pa_cons (pv 2) (pa_cons (pe_bltn (v := .ty "bool") (by rfl) m_bool (by decide +kernel) rfl) pa_nil))))))))))
   (pss_one (ps_ret (pe_lst (pa_cons pe_str (pa_cons (pv 2) (pa_cons (pe_callB call_isi (by rfl) m_isinstance PyProof.Rows.boot_isinstance (pa_cons (pv 2) (pa_cons (pe_bltn (v := .ty "bool") (by rfl) m_bool (by decide +kernel) rfl) pa_nil))) pa_nil))))))
   pss_nil)
  (pss_cons (ps_if (PW.pt (pw_and (pt_cmpR op_eq (pv 0) pe_int (nomark _)) (pw_and1 (PW.pt (pw_or (pt_cmpR op_lt (pv 2) pe_int (nomark _)) (pw_or1 (pt_cmpR op_gt (pv 2) (pe_callB call_len_seq (by rfl) m_len PySem.boot_len (pa_cons (pv 3) pa_nil)) (nomark _))))))))
   (pss_one (ps_ret (pe_lst (pa_cons pe_str (pa_cons (pv 2) (pa_cons pe_bl pa_nil))))))
   pss_nil)
  (pss_cons (ps_set (i := 5) sc_law_due.nd rfl (by first | exact .inl rfl | exact .inr rfl) (pe_lst pa_nil))
  (pss_cons (ps_for PassesOwn.never rfl  (pi_list (pe_slice sl_list (pe_call G_law_bundles (hr.mono (by decide)) (by rfl) g_law_bundles F_law_bundles.kp b_law_bundles .nil pass0 (pa_cons (pv 3) pa_nil)) (po_some pe_int) po_none)) (pg_name (i := 6) sc_law_due.nd rfl (by first | exact .inl rfl | exact .inr rfl))
   (pss_cons (ps_set (i := 7) sc_law_due.nd rfl (by first | exact .inl rfl | exact .inr rfl) (pe_revL (pe_callB (cr_sortedM hr.units) (by rfl) m_sorted (by decide +kernel) (pa_cons (pe_lc (own := [("_law_label", 4)]) (g := gName 4) (by rfl) sc_law_due.nd (pi_tup (pv 6)) (blkOk_by (own := [("_law_label", 4)]) (N := n_law_due) (sc := defScope s_law_due) (by decide +kernel)) (fun _ _ _ _ _ => pg_name (i := 4) sc_law_due.nd rfl (by first | exact .inl rfl | exact .inr rfl)) (fun _ _ _ _ _ => pts_nil) (fun _ _ _ _ _ => (pe_dget (hu_of hr) (pv 1) (pv 4) (fun _ _ => rfl)))) pa_nil))))
  (pss_one (ps_expr (pe_bm PySem.F.plainAttrs_list PySem.F.slot_list_append PySem.F.type_list_append mt_append (pv 5) (pa_cons (pe_callB (cr_sum rfl) (by rfl) m_sum (by decide +kernel) (pa_cons (pe_slice sl_list (pv 7) po_none (po_some (pe_ix ix_list (pe_lst (pa_cons (pe_callB call_len_seq (by rfl) m_len PySem.boot_len (pa_cons (pv 3) pa_nil)) (pa_cons pe_int (pa_cons (pv 2) pa_nil)))) (pv 0) (fun _ _ => rfl)))) pa_nil)) pa_nil))))))
  (pss_cons (ps_for PassesOwn.never rfl  (pi_list (pv 5)) (pg_name (i := 8) sc_law_due.nd rfl (by first | exact .inl rfl | exact .inr rfl))
   (pss_one (ps_if (pt_cmpR op_gt (pv 8) pe_int (nomark _))
   (pss_one (ps_ret (pe_lst (pa_cons pe_str (pa_cons (pv 8) (pa_cons pe_bl pa_nil))))))
   pss_nil)))
  (pss_one (ps_ret (pe_lst (pa_cons pe_str (pa_cons (pe_callTy call_tuple_of (by rfl) m_tuple (by decide +kernel) (pa_cons (pv 3) pa_nil)) (pa_cons (pe_callTy call_tuple_of (by rfl) m_tuple (by decide +kernel) (pa_cons (pv 5) pa_nil)) pa_nil))))))))))))))), ?_⟩
    refine ⟨.ref d, rfl, d, kvs, ks, rfl, .inl hd, hk, by omega, fun ys p hp hs np => ?_⟩
    obtain rfl := srt_only hp hs
    have e0 := Evl.Ex.new (H := H) (o := .lst ((srt ks).map V.str)) np
    have hw : (upd H p (.lst ((srt ks).map V.str))) p = some (.lst ((srt ks).map V.str)) := upd_same
    have hQ : ∀ q H1, Evl.Ex (upd H p (.lst ((srt ks).map V.str))) H1 → (upd H p (.lst ((srt ks).map V.str))) q = none → ToldAt q kvs ks (capP plan ks.length m) H1 → Q (.ref q) H1 := fun q H1 e nq m => hQ q H1 (e0.trans e) (Evl.fresh_back e0 nq) m
    have hd := e0 _ _ hd
    have hM := hM.ex e0
    have hA : ∀ s ∈ srt ks, AmX (upd H p (.lst ((srt ks).map V.str))) (amt kvs s) := fun s hs => (hk.amX hA (srt_mem.mp hs)).ex e0
    dsimp only [gName, List.set]
    show tSeq _ _ _ [some (.int (plan : Int)), some (.ref d), some m, some (.ref p), none, none, none, none, none] _
    revert hw hQ hd hM hA
    generalize upd H p (.lst ((srt ks).map V.str)) = H0
    intro hw hQ hd hM hA
    clear e0 hp hs np
    have hSl := srt_len ks
    have len : ∀ {H1 : Hp} {σ : L2.St}, σ[3]? = some (some (.ref p)) → Evl.Ex H0 H1 → Evl.Ev (tCB (fun xs H Q => ∃ p ys, xs = [.ref p] ∧ (SqL K H p ys ∨ SqT K H p ys) ∧ Q (.int ys.length) H) (tCons (tVar 3) tNil)) σ H1 (.int (ks.length : Int)) := fun {H1 σ} h0 e => by
      rw [← hSl, ← List.length_map (f := V.str) (as := srt ks)]
      exact Evl.ev_cb (Evl.ea_cons (Evl.ev_var h0) Evl.ea_nil) (rc_lenL (Evl.ex_l e (Evl.sq_of hw)))
    have fin : ∀ {r : TR}, sres kvs ks (capP plan ks.length m) = r → ∀ q H1, Evl.Ex H0 H1 → H0 q = none → (match r with
        | .cnt v => H1 q = some (.lst [.str "count", v, .bl (isBl v)])
        | .nm s => H1 q = some (.lst [.str "name", .str s])
        | .tw _ => False
        | .worth v => H1 q = some (.lst [.str "worth", v, .bl (isBl v)])
        | .fall _ _ => False
        | .ok => ∃ g n, H1 q = some (.lst [.str "table", .ref g, .ref n]) ∧ H1 g = some (.tup ((srt ks).map V.str)) ∧ H1 n = some (.tup ((rowS kvs (srt ks) (toI (capP plan ks.length m)).toNat).map V.int))) → Q (.ref q) H1 := fun {r} hr q H1 e nq h => hQ q H1 e nq (by rw [ToldAt, hr]; exact h)
    refine Evl.q_when (b := decide ((ks.length : Int) < 1) || decide ((5 : Int) < (ks.length : Int))) (Evl.et_or (Evl.et_test (Evl.ev_op (len rfl (Evl.Ex.refl H0)) Evl.ev_c Evl.rv_I0)) fun _ => Evl.et_test (Evl.ev_op (len rfl (Evl.Ex.refl H0)) Evl.ev_c Evl.rv_I0)) (fun hb H1 e1 => ?_) (fun hb H1 e1 => ?_)
    · have hg : sres kvs ks (capP plan ks.length m) = .cnt (.int (ks.length : Int)) := by
        unfold sres gres
        rw [if_pos]
        simp at hb
        omega
      exact Evl.s_retL (Evl.el_lst (Evl.ea_cons Evl.ev_c (Evl.ea_cons (len rfl e1) (Evl.ea_cons Evl.ev_c Evl.ea_nil))) (by show 3 ≤ 100000; decide)) fun q H2 nq e2 hq => fin hg q H2 (e1.trans e2) (Evl.fresh_back e1 nq) hq
    have hin : 1 ≤ (srt ks).length ∧ (srt ks).length ≤ 5 := by
      simp at hb
      omega
    refine Evl.q_forL (xs := (srt ks).map V.str) (Evl.ev_var rfl) (Evl.sq_of (e1 _ _ hw)) (fun i σ' H' => ∃ a1, σ' = [some (.int (plan : Int)), some (.ref d), some m, some (.ref p), a1, none, none, none, none] ∧ Evl.Ex H1 H' ∧ gres (srt ks) = scan ((srt ks).take i) ((srt ks).drop i)) (fun H2 e2 => ⟨_, rfl, e2, gres_in hin.1 hin.2⟩) (fun i σ' H' _ ⟨_, _, e, _⟩ => Evl.ex_l (e1.trans e) (Evl.sq_of hw))
      (fun i y σ' H' hy ⟨a1, es, ei, hg⟩ => ?_) (fun σ' H' ⟨a1, es, ei, hg⟩ => ?_)
    · subst es
      rw [List.getElem?_map] at hy
      obtain ⟨s, hs, rfl⟩ := Option.map_eq_some_iff.mp hy
      have hst := srt_ok hT s (List.mem_of_getElem? hs)
      rw [scan_step hs] at hg
      dsimp only [gName, List.set]
      refine Evl.s_when (b := !vn s) (Evl.et_not (Evl.et_B (Evl.ev_call (z := .bl (vn s)) (Evl.ea_cons (Evl.ev_var rfl) Evl.ea_nil) fun H2 e2 Q q E => ⟨s, rfl, hst.1, hst.2, fun H3 e3 => q H3 e3⟩))) (fun hb H2 e2 => ?_) (fun hb H2 e2 => ?_)
      · rw [if_pos (by simpa using hb)] at hg
        have hg2 : sres kvs ks (capP plan ks.length m) = .nm s := by
          unfold sres
          rw [hg]
        exact Evl.s_retL (Evl.el_lst (Evl.ea_cons Evl.ev_c (Evl.ea_cons (Evl.ev_var rfl) Evl.ea_nil)) (by show 2 ≤ 100000; decide)) fun q H3 nq e3 hq => fin hg2 q H3 (((e1.trans ei).trans e2).trans e3) (Evl.fresh_back ((e1.trans ei).trans e2) nq) hq
      · rw [if_neg (by simpa using hb)] at hg
        by_cases ht : s ∈ (srt ks).take i
        · rw [if_pos ht] at hg
          exact absurd hg (gres_tw hn s)
        · rw [if_neg ht] at hg
          exact ⟨_, rfl, ei.trans e2, hg⟩
    subst es
    rw [List.length_map, scan_end] at hg
    have e2 := e1.trans ei
    clear ei e1
    refine Evl.q_forL (xs := (srt ks).map V.str) (Evl.ev_var rfl) (Evl.sq_of (e2 _ _ hw)) (fun i σ' H1 => ∃ a1, σ' = [some (.int (plan : Int)), some (.ref d), some m, some (.ref p), a1, none, none, none, none] ∧ Evl.Ex H' H1 ∧ worstA kvs (srt ks) = worstA kvs ((srt ks).drop i)) (fun H2 e2 => ⟨_, rfl, e2, rfl⟩) (fun i σ' H' _ ⟨_, _, e, _⟩ => Evl.ex_l (e2.trans e) (Evl.sq_of hw))
      (fun i y σ' H3 hy ⟨a1, es, ei, hb3⟩ => ?_) (fun σ' H3 ⟨a1, es, ei, hb3⟩ => ?_)
    · subst es
      rw [List.getElem?_map] at hy
      obtain ⟨s, hs, rfl⟩ := Option.map_eq_some_iff.mp hy
      have hsm := List.mem_of_getElem? hs
      have hv := hk.amtV (srt_mem.mp hsm)
      rw [worst_drop hs] at hb3
      have gv : ∀ {H4 : Hp}, Evl.Ex H0 H4 → Evl.Ev (tDGet (tVar 1) (tVar 4)) [some (.int (plan : Int)), some (.ref d), some m, some (.ref p), some (.str s), none, none, none, none] H4 (amt kvs s) := fun {H4} e4 => ev_dgetK (Evl.ev_var rfl) (Evl.ev_var rfl) (e4 _ _ hd) hv
      dsimp only [gName, List.set]
      refine Evl.s_when (b := !wholeB (amt kvs s) 0 1000000) (Evl.et_not (Evl.et_B (Evl.ev_call (z := .bl (wholeB (amt kvs s) 0 1000000)) (Evl.ea_cons (gv (e2.trans ei)) Evl.ea_nil) fun H4 e4 Q q E => ⟨_, rfl, ((hA s hsm).ex (e2.trans ei)).ex e4, fun H5 e5 => q H5 e5⟩))) (fun hb2 H4 e4 => ?_) (fun hb2 H4 e4 => ?_)
      · rw [if_neg (by simpa using hb2)] at hb3
        have hg2 : sres kvs ks (capP plan ks.length m) = .worth (amt kvs s) := by
          unfold sres
          rw [hg]
          simp only [hb3]
        have e5 := (e2.trans ei).trans e4
        exact Evl.s_retL (Evl.el_lst (Evl.ea_cons Evl.ev_c (Evl.ea_cons (gv e5) (Evl.ea_cons (Evl.ev_cb (Evl.ea_cons (gv e5) (Evl.ea_cons Evl.ev_c Evl.ea_nil)) (rc_isB ((hA s hsm).ex e5))) Evl.ea_nil))) (by show 3 ≤ 100000; decide)) fun q H6 nq e6 hq => fin hg2 q H6 (e5.trans e6) (Evl.fresh_back e5 nq) hq
      · rw [if_pos (by simpa using hb2)] at hb3
        exact ⟨_, rfl, ei.trans e4, hb3⟩
    subst es
    rw [List.length_map, List.drop_length] at hb3
    have hb3 : worstA kvs (srt ks) = none := hb3
    have e3 := e2.trans ei
    have hso := sres_ok (m := capP plan ks.length m) hg hb3
    refine Evl.q_when (b := decide (V.int (plan : Int) = V.int 2) && (!isIn m || isBl m)) (Evl.et_and (Evl.et_test (Evl.ev_op (Evl.ev_var rfl) Evl.ev_c (Evl.rv_eq rfl))) fun _ => Evl.et_or (Evl.et_not (Evl.et_test (Evl.ev_cb (Evl.ea_cons (Evl.ev_var rfl) (Evl.ea_cons Evl.ev_c Evl.ea_nil)) (rc_isI (hM.ex e3))))) fun _ => Evl.et_test (Evl.ev_cb (Evl.ea_cons (Evl.ev_var rfl) (Evl.ea_cons Evl.ev_c Evl.ea_nil)) (rc_isB (hM.ex e3)))) (fun hb2 H4 e4 => ?_) (fun hb2 H4 e4 => ?_)
    · rw [Bool.and_eq_true] at hb2
      have h2 : plan = 2 := by
        have : (plan : Int) = 2 := by simpa using hb2.1
        omega
      subst h2
      have hf : wholeB m 0 (ks.length : Int) = false := by
        rw [wholeB_of]
        have := hb2.2
        cases h1 : isBl m <;> cases h2 : isIn m <;> simp_all
      have hg2 : sres kvs ks (capP 2 ks.length m) = .cnt m := by
        rw [hso]
        show (if wholeB m 0 (ks.length : Int) = true then _ else _) = _
        rw [hf]
        rfl
      have e5 := e3.trans e4
      exact Evl.s_retL (Evl.el_lst (Evl.ea_cons Evl.ev_c (Evl.ea_cons (Evl.ev_var rfl) (Evl.ea_cons (Evl.ev_cb (Evl.ea_cons (Evl.ev_var rfl) (Evl.ea_cons Evl.ev_c Evl.ea_nil)) (rc_isB (hM.ex e5))) Evl.ea_nil))) (by show 3 ≤ 100000; decide)) fun q H6 nq e6 hq => fin hg2 q H6 (e5.trans e6) (Evl.fresh_back e5 nq) hq
    have e4 := e3.trans e4
    clear e3 ei e2
    have hmi : plan = 2 → ∃ i, m = .int i := fun h2 => by
      subst h2
      have h3 : isIn m = true ∧ isBl m = false := by
        cases h1 : isBl m <;> cases h2 : isIn m <;> simp_all
      exact int_of h3.1 h3.2
    refine Evl.q_when (b := decide (V.int (plan : Int) = V.int 2) && (decide (toI m < 0) || decide ((ks.length : Int) < toI m))) (Evl.et_and (Evl.et_test (Evl.ev_op (Evl.ev_var rfl) Evl.ev_c (Evl.rv_eq rfl))) fun h2 => by
      have h2 : plan = 2 := by
        have : (plan : Int) = 2 := by simpa using h2
        omega
      obtain ⟨i, rfl⟩ := hmi h2
      exact Evl.et_or (Evl.et_test (Evl.ev_op (Evl.ev_var rfl) Evl.ev_c Evl.rv_I0)) fun _ => Evl.et_test (Evl.ev_op (Evl.ev_var rfl) (len rfl e4) Evl.rv_I0)) (fun hb4 H5 e5 => ?_) (fun hb4 H5 e5 => ?_)
    · rw [Bool.and_eq_true] at hb4
      have h2 : plan = 2 := by
        have : (plan : Int) = 2 := by simpa using hb4.1
        omega
      obtain ⟨i, rfl⟩ := hmi h2
      subst h2
      have hf : wholeB (.int i) 0 (ks.length : Int) = false := by
        have h9 := hb4.2
        rw [Bool.or_eq_true, decide_eq_true_iff, decide_eq_true_iff] at h9
        have h9 : i < 0 ∨ (ks.length : Int) < i := h9
        show (decide (0 ≤ i) && decide (i ≤ (ks.length : Int))) = false
        rw [Bool.and_eq_false_iff, decide_eq_false_iff_not, decide_eq_false_iff_not]
        omega
      have hg2 : sres kvs ks (capP 2 ks.length (.int i)) = .cnt (.int i) := by
        rw [hso]
        show (if wholeB (.int i) 0 (ks.length : Int) = true then _ else _) = _
        rw [hf]
        rfl
      have e6 := e4.trans e5
      exact Evl.s_retL (Evl.el_lst (Evl.ea_cons Evl.ev_c (Evl.ea_cons (Evl.ev_var rfl) (Evl.ea_cons Evl.ev_c Evl.ea_nil))) (by show 3 ≤ 100000; decide)) fun q H6 nq e7 hq => fin hg2 q H6 (e6.trans e7) (Evl.fresh_back e6 nq) hq
    have e5 := e4.trans e5
    obtain ⟨mn, hcap, hmn⟩ : ∃ mn : Nat, capP plan ks.length m = .int (mn : Int) ∧ mn ≤ ks.length := by
      rcases Nat.lt_or_ge plan 1 with h | h
      · exact ⟨ks.length, by unfold capP; rw [if_pos (by omega)], Nat.le_refl _⟩
      · rcases Nat.lt_or_ge plan 2 with h3 | h3
        · exact ⟨1, by unfold capP; rw [if_neg (by omega), if_pos (by omega)]; rfl, by omega⟩
        · have h2 : plan = 2 := by omega
          obtain ⟨i, rfl⟩ := hmi h2
          subst h2
          have h9 : (decide (i < 0) || decide ((ks.length : Int) < i)) = false := hb4
          rw [Bool.or_eq_false_iff, decide_eq_false_iff_not, decide_eq_false_iff_not] at h9
          exact ⟨i.toNat, by show V.int i = _; rw [Int.toNat_of_nonneg (by omega)], by omega⟩
    have hidx : ∀ v, atI [V.int (ks.length : Int), .int 1, m] (plan : Int) = some v → v = .int (mn : Int) := fun v hv => by
      rw [← hcap]
      unfold capP
      rcases Nat.lt_or_ge plan 1 with h | h
      · obtain rfl : plan = 0 := by omega
        have h8 : atI [V.int (ks.length : Int), .int 1, m] ((0 : Nat) : Int) = some (V.int (ks.length : Int)) := rfl
        rw [h8] at hv
        exact (Option.some.inj hv).symm
      · rcases Nat.lt_or_ge plan 2 with h3 | h3
        · obtain rfl : plan = 1 := by omega
          have h8 : atI [V.int (ks.length : Int), .int 1, m] ((1 : Nat) : Int) = some (V.int 1) := rfl
          rw [h8] at hv
          exact (Option.some.inj hv).symm
        · obtain rfl : plan = 2 := by omega
          have h8 : atI [V.int (ks.length : Int), .int 1, m] ((2 : Nat) : Int) = some m := rfl
          rw [h8] at hv
          exact (Option.some.inj hv).symm
    have hwb : wholeB (.int (mn : Int)) 0 (ks.length : Int) = true := by
      simp [wholeB]
      omega
    have tn : (toI (.int (mn : Int))).toNat = mn := Int.toNat_natCast mn
    rw [hcap] at fin hso
    rw [if_pos hwb, tn] at hso
    rw [tn] at fin
    have hn6 : (srt ks).length < 6 := by omega
    have hres := wres_row hn6 hso.symm fun b j => noFall kvs ks _ b j
    clear hso e4 hb4 hb2 hb hcap
    refine Evl.q_asgL (Evl.el_lst Evl.ea_nil (by show 0 ≤ 100000; decide)) fun R H6 nR e6 hR => ?_
    have hnd : ks.Nodup := hn
    have e56 := e5.trans e6
    refine ⟨.ref p, rfl, p, srt ks, rfl, Evl.sq_of (e56 _ _ hw), srt_inc hnd, srt_ok hT, hin.2, fun B ub H7 e7 nB hB bB => ⟨1, rfl, B, ub, rfl, Evl.sq_of hB, fun C nC => ⟨C, rfl, ⟨_, Evl.sq_of upd_same⟩, ?_⟩⟩⟩
    have lub : ub.length = (allI (srt ks).length).length := by rw [bB.len, List.length_map]
    obtain ⟨l1, l32⟩ := all_len (srt ks).length hn6
    rw [cut1 (by omega)]
    have eC : Evl.Ex H7 (upd H7 C (.lst (ub.drop 1))) := Evl.Ex.new nC
    have hRC : C ≠ R := fun z => by
      rw [z, e7 _ _ hR] at nC
      cases nC
    have ldr : (ub.drop 1).length = ((allI (srt ks).length).drop 1).length := by rw [List.length_drop, List.length_drop, lub]
    have lrow : (rowS kvs (srt ks) mn).length = ((allI (srt ks).length).drop 1).length := by
      unfold rowS
      rw [List.length_map]
    refine for_it (walk_list (xs := ub.drop 1)) (fun i σ' H' => ∃ a4 a6 a7, σ' = [some (.int (plan : Int)), some (.ref d), some m, some (.ref p), a4, some (.ref R), a6, a7, none] ∧ Evl.Ex H5 H' ∧ H' R = some (.lst (((rowS kvs (srt ks) mn).take i).map V.int)) ∧ H' C = some (.lst (ub.drop 1)) ∧ Bags H' (ub.drop 1) (((allI (srt ks).length).drop 1).map (bagI (srt ks))))
      ⟨_, _, _, rfl, e6.trans (e7.trans eC), eC _ _ (e7 _ _ hR), upd_same, by rw [List.map_drop]; exact (bB.drop 1).ex eC⟩ (fun i σ' H' _ h => ?_) (fun i x σ' H' H'' hi h y => ?_) (fun σ' H' h => ?_)
    · obtain ⟨a4, a6, a7, _, _, _, h5, _⟩ := h
      exact Evl.sq_of h5
    · obtain ⟨a4, a6, a7, rfl, ei, hRi, hCi, bi⟩ := h
      obtain ⟨rfl, hx⟩ := y
      obtain ⟨bs, hbs, ax, rfl, hax⟩ := bi.at hx
      rw [List.getElem?_map] at hbs
      obtain ⟨b, hb, rfl⟩ := Option.map_eq_some_iff.mp hbs
      have hbi := all_in (srt ks).length hn6 b (List.mem_of_mem_drop (List.mem_of_getElem? hb))
      have hsub := bag_sub hbi.2
      have e5i := e5.trans ei
      dsimp only [gName, List.set]
      have key : Evl.EvL (tLc (iTup K (tVar 6)) (gName 4) tYes (tDGet (tVar 1) (tVar 4)) [4]) [some (.int (plan : Int)), some (.ref d), some m, some (.ref p), a4, some (.ref R), some (.ref ax), a7, none] H'' (((bagI (srt ks) b).map fun s => toI (amt kvs s)).map V.int) := by
        have h := el_lcT (K := K) (σ := [some (.int (plan : Int)), some (.ref d), some m, some (.ref p), a4, some (.ref R), some (.ref ax), a7, none]) (H := H'') (j := 4) (vs := [4]) (t := tYes) (tl := tVar 6) (te := tDGet (tVar 1) (tVar 4)) (xs := bagI (srt ks) b) (cv := V.str) (fun _ => true) (fun s => V.int (toI (amt kvs s))) (Evl.ev_var rfl) (Evl.st_of hax) (by unfold bagI; rw [List.length_map]; omega) (fun _ => rfl) (fun _ _ _ _ => et_yes) (fun s H1 e1 hs _ => by
          have hk1 := srt_mem.mp (hsub s hs)
          refine ev_dgetK (Evl.ev_var rfl) (Evl.ev_var rfl) (e1 _ _ (e5i _ _ hd)) ?_
          rw [hk.amtV hk1]
          have := List.find?_eq_none.mp hb3 s (hsub s hs)
          revert this
          cases amt kvs s <;> simp [wholeB, toI])
        rw [List.filter_eq_self.mpr (fun _ _ => rfl)] at h
        rw [List.map_map]
        exact h
      refine Evl.q_asgL (el_rev (el_sortI key)) fun T H8 nT e8 hT8 => ?_
      dsimp only [gName, List.set]
      have hR8 := e8 _ _ hRi
      have hC8 := e8 _ _ hCi
      have b8 := bi.ex e8
      have hval : (((asc ((bagI (srt ks) b).map fun s => toI (amt kvs s))).map V.int).reverse.take mn) = (((dsc ((bagI (srt ks) b).map fun s => toI (amt kvs s))).take mn).map V.int) := by
        rw [dsc_eq, List.map_take, List.map_reverse]
      have hsum : Evl.Ev (tCB (rSum K) (tCons (tSl (rSlL K) (tVar 7) tNoPart (tPart (tOp (rIxL K) (tLst (tCons (tCB (fun xs H Q => ∃ p ys, xs = [.ref p] ∧ (SqL K H p ys ∨ SqT K H p ys) ∧ Q (.int ys.length) H) (tCons (tVar 3) tNil)) (tCons (tC (.int 1)) (tCons (tVar 2) tNil)))) (tVar 0)))) tNil)) [some (.int (plan : Int)), some (.ref d), some m, some (.ref p), a4, some (.ref R), some (.ref ax), some (.ref T), none] H8 (.int (sums kvs (bagI (srt ks) b) mn)) := by
        refine ev_cbL (xs := ((dsc ((bagI (srt ks) b).map fun s => toI (amt kvs s))).take mn).map V.int) ?_ fun q H1 hq e => fun H2 e2 Q q2 => ⟨q, _, rfl, Evl.sq_of (e2 _ _ hq), q2 H2 (Evl.Ex.refl _)⟩
        rw [← hval]
        have h8 : atI [V.int (ks.length : Int), .int 1, m] (plan : Int) = some (.int (mn : Int)) := by
          obtain ⟨v, hv, _⟩ := atI_some (xs := [V.int (ks.length : Int), .int 1, m]) (i := (plan : Int)) (by omega) (by show (plan : Int) < 3; omega)
          rw [hv, hidx v hv]
        exact el_takeV (Evl.ev_var rfl) hT8 (ev_ixNew (Evl.el_lst (Evl.ea_cons (len rfl (e5i.trans e8)) (Evl.ea_cons Evl.ev_c (Evl.ea_cons (Evl.ev_var rfl) Evl.ea_nil))) (by show 3 ≤ 100000; decide)) (Evl.ev_var rfl) h8)
      refine Evl.s_app (l := R) hR8 (Evl.ev_var rfl) hsum ?_ fun H9 e9 => ?_
      · have h32 : ((allI (srt ks).length).drop 1).length ≤ 32 := by
          rw [List.length_drop]
          omega
        rw [List.length_map, List.length_take, lrow]
        exact Nat.lt_of_le_of_lt (Nat.min_le_right _ _) (by omega)
      · have hR9 := e9 _ _ hR8
        have nR5 : H5 R = none := nR
        refine ⟨_, _, _, rfl, ((ei.trans e8).trans e9).mut nR5, ?_, ?_, (b8.ex e9).put hR9⟩
        · rw [upd_same]
          have hri : (rowS kvs (srt ks) mn)[i]? = some (sums kvs (bagI (srt ks) b) mn) := by
            unfold rowS
            rw [List.getElem?_map, hb]
            rfl
          rw [List.take_add_one, hri, List.map_append]
          rfl
        · rw [upd_ne hRC]
          exact e9 _ _ hC8
    · obtain ⟨a4, a6, a7, rfl, ei, hRi, _, _⟩ := h
      rw [ldr, ← lrow, List.take_length] at hRi
      have e5i := e5.trans ei
      have hpos : ∀ z ∈ rowS kvs (srt ks) mn, 0 ≤ z := fun z hz => by
        unfold rowS at hz
        obtain ⟨b, hb, rfl⟩ := List.mem_map.mp hz
        exact sums_nonneg hb3 (bag_sub (all_in (srt ks).length hn6 b (List.mem_of_mem_drop hb)).2)
      refine Evl.q_forL (xs := (rowS kvs (srt ks) mn).map V.int) (Evl.ev_var rfl) (Evl.sq_of hRi) (fun i σ' H2 => ∃ a8, σ' = [some (.int (plan : Int)), some (.ref d), some m, some (.ref p), a4, some (.ref R), a6, a7, a8] ∧ Evl.Ex H' H2 ∧ badW ((rowS kvs (srt ks) mn).map V.int) = badW (((rowS kvs (srt ks) mn).map V.int).drop i)) (fun H2 e2 => ⟨_, rfl, e2, rfl⟩) (fun i σ' H2 _ ⟨_, _, e, _⟩ => Evl.sq_of (e _ _ hRi))
        (fun i y σ' H2 hy ⟨a8, es, e2, hbw⟩ => ?_) (fun σ' H2 ⟨a8, es, e2, hbw⟩ => ?_)
      · subst es
        rw [badW_at hy] at hbw
        rw [List.getElem?_map] at hy
        obtain ⟨z, hz, rfl⟩ := Option.map_eq_some_iff.mp hy
        have hz0 := hpos z (List.mem_of_getElem? hz)
        have hwz : wholeB (.int z) 0 1000000 = !decide ((1000000 : Int) < z) := by
          show (decide (0 ≤ z) && decide (z ≤ 1000000)) = _
          rw [decide_eq_true hz0, Bool.true_and]
          by_cases h : z ≤ 1000000
          · rw [decide_eq_true h, decide_eq_false (by omega)]
            rfl
          · rw [decide_eq_false h, decide_eq_true (by omega)]
            rfl
        rw [hwz] at hbw
        dsimp only [gName, List.set]
        refine Evl.s_when (b := decide ((1000000 : Int) < z)) (Evl.et_test (Evl.ev_op (Evl.ev_var rfl) Evl.ev_c Evl.rv_I0)) (fun hb5 H3 e3 => ?_) (fun hb5 H3 e3 => ?_)
        · rw [hb5] at hbw
          have hbw : badW ((rowS kvs (srt ks) mn).map V.int) = some (.int z) := hbw
          rw [hbw] at hres
          have e9 := (e5i.trans e2).trans e3
          exact Evl.s_retL (Evl.el_lst (Evl.ea_cons Evl.ev_c (Evl.ea_cons (Evl.ev_var rfl) (Evl.ea_cons Evl.ev_c Evl.ea_nil))) (by show 3 ≤ 100000; decide)) fun q H6 nq e6 hq => fin hres q H6 (e9.trans e6) (Evl.fresh_back e9 nq) hq
        · rw [hb5] at hbw
          exact ⟨_, rfl, e2.trans e3, hbw⟩
      · subst es
        rw [List.drop_length] at hbw
        have hbw : badW ((rowS kvs (srt ks) mn).map V.int) = none := hbw
        rw [hbw] at hres
        have e9 := e5i.trans e2
        refine ⟨.ref p, rfl, p, _, rfl, .inl ⟨Evl.sq_of (e9 _ _ hw), fun t nt => ⟨.ref R, rfl, R, _, rfl, .inl ⟨Evl.sq_of ((Evl.Ex.new nt) _ _ (e2 _ _ hRi)), fun t2 nt2 => ⟨by show (3 : Nat) ≤ sizeLine; decide, fun l nl => ?_⟩⟩⟩⟩⟩
        have e10 := e9.trans (Evl.Ex.new (o := .tup ((srt ks).map V.str)) nt)
        have e11 := e10.trans (Evl.Ex.new (o := .tup ((rowS kvs (srt ks) mn).map V.int)) nt2)
        exact fin hres l _ (e11.trans (Evl.Ex.new nl)) (Evl.fresh_back e11 nl) ⟨t, t2, upd_same, (Evl.Ex.new nl) _ _ ((Evl.Ex.new nt2) _ _ upd_same), (Evl.Ex.new nl) _ _ upd_same⟩
end
end Lw

namespace Lw
open PySem PySem.Spec PyProof.Rows L2
structure InsC (K : PySem.W.Frag) (C : Addr) : Prop where
  ha : PySem.W.findIn K (.ref C) "__class__" = some (some (.builtin "object.__class__"))
  hn : PySem.W.specialIn K (.builtin "object.__class__") "__get__" = some (some (.builtin "getset_descriptor.__get__"))
  tk : PySem.W.takesIn K (.builtin "object.__class__") = some true
  hm : PySem.W.mroIn K C (.type "object") = some true
  kit : PySem.W.kitOne K (.ref C) (.ref C) = some true
theorem eqv_intsT : ∀ (a b : List Int), PyData.eqv (.tuple (a.map .int)) (.tuple (b.map .int)) = decide (a = b)
  | [], [] => rfl
  | [], _ :: _ => rfl
  | _ :: _, [] => rfl
  | x :: r, y :: t => by
    have ih := eqv_intsT r t
    simp only [List.map_cons, PyData.eqv, PyData.eqvAll] at ih ⊢
    rw [ih, Bool.eq_iff_iff]
    simp
theorem good_intsT (zs : List Int) : GoodD 2 (.tuple (zs.map PyData.int)) := good_tuple (n := 1) fun d hd => by
  obtain ⟨z, _, rfl⟩ := List.mem_map.mp hd
  exact good_int z
theorem dp_intsT {K : PySem.W.Frag} {H : Hp} {p : Addr} {zs : List Int} (h : SqT K H p (zs.map V.int)) : Dp K H (.ref p) (.tuple (zs.map PyData.int)) := .tup h (by
  clear h
  induction zs with
  | nil => exact .nil
  | cons z r ih => exact .cons (.int z) ih)
def sp_teq (CT : Addr) : Sp := fun vs H Q _ => ∃ (x y : Addr) (ws ws' : List Str) (zs zs' : List Int), vs = [.ref x, .ref y] ∧ TabAt CT x ws zs H ∧ TabAt CT y ws' zs' H ∧ TxtOk ws ∧ TxtOk ws' ∧ ∀ H1, Evl.Ex H H1 → Q (.bl (decide (ws = ws') && decide (zs = zs'))) H1
abbrev s_Table_eq : Stmt := inClass (topS 30) 9
abbrev n_Table_eq : List Str := ["self", "other"]
theorem sc_Table_eq : FnScope n_Table_eq ["self", "other"] (defScope s_Table_eq) := ⟨rfl, rfl, rfl, by decide +kernel, rfl, by decide +kernel, by decide +kernel⟩
section
variable {P : Program} {w : World} {K : PySem.W.Frag} {mg : Str → Option Value} {base : Heap}
theorem ok_teq {f CT : Addr} {fd : FuncData} {k : Nat} (F : Fun K "__eq__" "Table.__eq__" s_Table_eq f fd) (cls : Cls K CT) (ins : InsC K CT) (noG : NoAttr K CT "_goods") (noN : NoAttr K CT "_numbers")
    (g_Table : mg "Table" = some (.ref CT)) (m_isinstance : mg "isinstance" = none) : FnOk P w K mg base CX0 (k + 1) f fd ["self", "other"] (sp_teq CT) := by
  refine F.ok sc_Table_eq (fun vs H Q E h => ?_) (fun cdv A outer s H vs Q E hr h => ?_)
  · obtain ⟨x, y, ws, ws', zs, zs', rfl, _⟩ := h
    rfl
  · obtain ⟨x, y, ws, ws', zs, zs', rfl, ⟨dx, g, d, n, h1, h2, h3, h4⟩, ⟨dy, g', d', n', h1', h2', h3', h4'⟩, hT, hT', hQ⟩ := h
    refine ⟨_, (pss_one (ps_ret (pe_and (pe_callB call_isi (by rfl) m_isinstance PyProof.Rows.boot_isinstance (pa_cons (pv 1) (pa_cons (pe_cls (by rfl) g_Table) pa_nil))) (pe_and (pe_cmpR (op_eqD hr.units) (pe_fld (pv 0) rfl) (pe_fld (pv 1) rfl) (nomark _)) (pe_one (pe_cmpR (op_eqD hr.units) (pe_fld (pv 0) rfl) (pe_fld (pv 1) rfl) (nomark _))))))), ?_⟩
    have sh : ∀ {zs : List Str}, TxtOk zs → SeqAt.shaped (.tuple (zs.map PyData.str)) = true := fun h => (good_strsT fun z hz => (h z hz).2).shaped (by decide)
    have si : ∀ zs : List Int, SeqAt.shaped (.tuple (zs.map PyData.int)) = true := fun zs => (good_intsT zs).shaped (by decide)
    refine Evl.s_ret (v := .bl (true && (decide (ws = ws') && decide (zs = zs')))) (Evl.ev_andV (Evl.ev_cb (Evl.ea_cons (Evl.ev_var rfl) (Evl.ea_cons Evl.ev_c Evl.ea_nil)) fun H1 e Q q => ⟨.ref y, .ref CT, .ref CT, .ref CT, true, rfl, .own _, .base (.ins (e _ _ h1') cls ins.ha ins.hn ins.tk ins.hm), ins.kit, q H1 (Evl.Ex.refl _)⟩) fun _ => Evl.ev_andV (Evl.ev_is (Evl.ev_op (ev_fld (Evl.ev_var rfl) h1 cls noG rfl) (ev_fld (Evl.ev_var rfl) h1' cls noG rfl) (rv_eqD (fun H1 e => dp_strsT (Evl.st_of (e _ _ h2))) (fun H1 e => dp_strsT (Evl.st_of (e _ _ h2'))) (sh hT) (sh hT'))) (by rw [eqv_strsT])) fun _ => Evl.ev_is (Evl.ev_op (ev_fld (Evl.ev_var rfl) h1 cls noN rfl) (ev_fld (Evl.ev_var rfl) h1' cls noN rfl) (rv_eqD (fun H1 e => dp_intsT (Evl.st_of (e _ _ h4))) (fun H1 e => dp_intsT (Evl.st_of (e _ _ h4'))) (si zs) (si zs'))) (by rw [eqv_intsT])) fun H1 e => ?_
    rw [Bool.true_and]
    exact hQ H1 e
end
end Lw

namespace Lw
open PySem PySem.Spec PyProof.Rows L2
theorem worst_same {k1 k2 : List (L2.Key × V)} : ∀ {ws : List Str}, (∀ s ∈ ws, amt k1 s = amt k2 s) → worstA k1 ws = worstA k2 ws
  | [], _ => rfl
  | s :: ws, h => by
    have ih := worst_same (ws := ws) fun z hz => h z (List.mem_cons_of_mem _ hz)
    unfold worstA at ih ⊢
    rw [List.find?_cons, List.find?_cons, h s List.mem_cons_self, ih]
theorem sums_same {k1 k2 : List (L2.Key × V)} {b : List Str} {m : Nat} (h : ∀ s ∈ b, amt k1 s = amt k2 s) : sums k1 b m = sums k2 b m := by
  unfold sums
  rw [List.map_congr_left fun s hs => by rw [h s hs]]
theorem rowS_same {k1 k2 : List (L2.Key × V)} {ws : List Str} {m : Nat} (hn : ws.length < 6) (h : ∀ s ∈ ws, amt k1 s = amt k2 s) : rowS k1 ws m = rowS k2 ws m := by
  unfold rowS
  exact List.map_congr_left fun b hb => sums_same fun s hs => h s (bag_sub (all_in ws.length hn b (List.mem_of_mem_drop hb)).2 s hs)
theorem sres_same {k1 k2 : List (L2.Key × V)} {s1 s2 : List Str} {m : V} (hs : srt s1 = srt s2) (h : ∀ s ∈ srt s2, amt k1 s = amt k2 s) : sres k1 s1 m = sres k2 s2 m ∧ (sres k2 s2 m = .ok → rowS k1 (srt s1) (toI m).toNat = rowS k2 (srt s2) (toI m).toNat) := by
  have hl : s1.length = s2.length := by rw [← srt_len s1, hs, srt_len]
  unfold sres
  rw [hs, hl]
  cases hg : gres (srt s2) with
  | cnt => exact ⟨rfl, fun h => nomatch h⟩
  | nm s => exact ⟨rfl, fun h => nomatch h⟩
  | tw s => exact ⟨rfl, fun h => nomatch h⟩
  | ok =>
    have hn : (srt s2).length < 6 := by
      obtain ⟨⟨_, h5⟩, _⟩ := gres_ok.mp hg
      omega
    have hr : rowS k1 (srt s2) (toI m).toNat = rowS k2 (srt s2) (toI m).toNat := rowS_same hn h
    dsimp only
    rw [worst_same h, hr]
    refine ⟨?_, fun _ => rfl⟩
    cases hw : worstA k2 (srt s2) with
    | some s =>
      dsimp only
      rw [h s (worst_in hw)]
    | none => rfl
theorem ToldAt.same {k1 k2 : List (L2.Key × V)} {s1 s2 : List Str} {m : V} {p : Addr} {H : Hp} (hs : srt s1 = srt s2) (h : ∀ s ∈ srt s2, amt k1 s = amt k2 s) (t : ToldAt p k1 s1 m H) : ToldAt p k2 s2 m H := by
  obtain ⟨h1, h2⟩ := sres_same (m := m) hs h
  unfold ToldAt at t ⊢
  rw [h1] at t
  cases hr : sres k2 s2 m with
  | cnt v => rw [hr] at t; exact t
  | nm s => rw [hr] at t; exact t
  | tw s => rw [hr] at t; exact t
  | worth v => rw [hr] at t; exact t
  | fall b j => rw [hr] at t; exact t
  | ok =>
    rw [hr] at t
    obtain ⟨g, n, a1, a2, a3⟩ := t
    exact ⟨g, n, a1, by rw [← hs]; exact a2, by rw [← h2 hr]; exact a3⟩
def tagOf : TR → Str
  | .cnt _ => "count"
  | .nm _ => "name"
  | .tw _ => "twice"
  | .worth _ => "worth"
  | .fall _ _ => "fall"
  | .ok => "table"
theorem tag_ok {r : TR} (h : tagOf r = "table") : r = .ok := by
  cases r with
  | ok => rfl
  | cnt v => exact absurd (show ("count" : Str) = "table" from h) (by decide)
  | nm v => exact absurd (show ("name" : Str) = "table" from h) (by decide)
  | tw v => exact absurd (show ("twice" : Str) = "table" from h) (by decide)
  | worth v => exact absurd (show ("worth" : Str) = "table" from h) (by decide)
  | fall b j => exact absurd (show ("fall" : Str) = "table" from h) (by decide)
theorem ToldAt.head {kvs : List (L2.Key × V)} {ks : List Str} {m : V} {p : Addr} {H : Hp} (t : ToldAt p kvs ks m H) : ∃ r, H p = some (.lst (.str (tagOf (sres kvs ks m)) :: r)) := by
  unfold ToldAt at t
  cases hr : sres kvs ks m with
  | cnt v => rw [hr] at t; exact ⟨_, t⟩
  | nm s => rw [hr] at t; exact ⟨_, t⟩
  | tw s => rw [hr] at t; exact t.elim
  | worth v => rw [hr] at t; exact ⟨_, t⟩
  | fall b j => rw [hr] at t; exact t.elim
  | ok =>
    rw [hr] at t
    obtain ⟨g, n, a1, a2, a3⟩ := t
    exact ⟨_, a1⟩
theorem ToldAt.ne {X : Cx} {p q : Addr} {kvs : List (L2.Key × V)} {ks : List Str} {u : V} {H : Hp} {Q : VK} (h1 : ToldAt p kvs ks u H) (h2 : ToldAt q kvs ks u H) (hk : KD kvs ks) (hT : TxtOk ks) (hA : ∀ p ∈ kvs, AmX H p.2) (hU : AmX H u) (hq : Q (.bl false) H) : rNeL X 8 (.ref p) (.ref q) H Q := by
  have go : ∀ (xs ys : List V), H p = some (.lst xs) → H q = some (.lst ys) → xs.length = ys.length → (∀ j a b, xs[j]? = some a → ys[j]? = some b → EqS 8 X H a b true) → rNeL X 8 (.ref p) (.ref q) H Q := fun xs ys hx hy hl he => ⟨p, q, xs, ys, fun _ => true, rfl, rfl, Evl.sq_of hx, Evl.sq_of hy, hl, he, by
    rw [show ((List.range xs.length).all fun _ => true) = true from List.all_eq_true.mpr fun _ _ => rfl]
    exact hq⟩
  have sv : ∀ {v : V}, SameV v v → EqS 8 X H v v true := fun h => eqs_same h
  have st : ∀ z : Str, EqS 8 X H (.str z) (.str z) true := fun z => eqs_same (.inl ⟨rfl, rfl, by simp [eqV]⟩)
  have am := sres_am (H := H) hk hA hU
  unfold ToldAt at h1 h2
  cases hp : sres kvs ks u with
  | cnt v =>
    rw [hp] at h1 h2
    refine go _ _ h1 h2 rfl fun j a b ha hb => ?_
    match j, ha, hb with
    | 0, rfl, rfl => exact st _
    | 1, rfl, rfl => exact sv (am.1 v hp).same
    | 2, rfl, rfl => exact sv (.inl ⟨rfl, rfl, by simp [eqV]⟩)
  | nm s =>
    rw [hp] at h1 h2
    refine go _ _ h1 h2 rfl fun j a b ha hb => ?_
    match j, ha, hb with
    | 0, rfl, rfl => exact st _
    | 1, rfl, rfl => exact st _
  | tw s =>
    rw [hp] at h1
    exact h1.elim
  | worth v =>
    rw [hp] at h1 h2
    refine go _ _ h1 h2 rfl fun j a b ha hb => ?_
    match j, ha, hb with
    | 0, rfl, rfl => exact st _
    | 1, rfl, rfl => exact sv (am.2 v hp).same
    | 2, rfl, rfl => exact sv (.inl ⟨rfl, rfl, by simp [eqV]⟩)
  | fall b j =>
    rw [hp] at h1
    exact h1.elim
  | ok =>
    rw [hp] at h1 h2
    obtain ⟨g1, m1, a1, a2, a3⟩ := h1
    obtain ⟨g2, m2, b1, b2, b3⟩ := h2
    have gd : GoodD 8 (.tuple ((srt ks).map PyData.str)) := (good_strsT fun z hz => (srt_ok hT z hz).2).mono (by decide)
    have gi : GoodD 8 (.tuple ((rowS kvs (srt ks) (toI u).toNat).map PyData.int)) := (good_intsT _).mono (by decide)
    have htup : EqS 8 X H (.ref g1) (.ref g2) true := by
      have := eqs_data (X := X) (n := 8) (H := H) (dp_strsT (K := X.K) (Evl.st_of a2)) (dp_strsT (K := X.K) (Evl.st_of b2)) gd gd
      rw [eqv_strsT, decide_eq_true rfl] at this
      exact this
    have hint : EqS 8 X H (.ref m1) (.ref m2) true := by
      have := eqs_data (X := X) (n := 8) (H := H) (dp_intsT (K := X.K) (Evl.st_of a3)) (dp_intsT (K := X.K) (Evl.st_of b3)) gi gi
      rw [eqv_intsT, decide_eq_true rfl] at this
      exact this
    refine go _ _ a1 b1 rfl fun j a b ha hb => ?_
    match j, ha, hb with
    | 0, rfl, rfl => exact st _
    | 1, rfl, rfl => exact htup
    | 2, rfl, rfl => exact hint
/-- what is due once the table of all sums stands -/
theorem sres_one {kvs : List (L2.Key × V)} {ks : List Str} {m : V} (h : sres kvs ks m = .ok) : gres (srt ks) = .ok ∧ worstA kvs (srt ks) = none ∧ sres kvs ks (.int 1) = .ok := by
  have hg : gres (srt ks) = .ok := by
    unfold sres at h
    cases hg : gres (srt ks) with
    | cnt => rw [hg] at h; cases h
    | nm s => rw [hg] at h; cases h
    | tw s => rw [hg] at h; cases h
    | ok => rfl
  have hw : worstA kvs (srt ks) = none := by
    unfold sres at h
    rw [hg] at h
    dsimp only at h
    cases hw : worstA kvs (srt ks) with
    | none => rfl
    | some s => rw [hw] at h; cases h
  refine ⟨hg, hw, ?_⟩
  obtain ⟨⟨h1, h5⟩, _⟩ := gres_ok.mp hg
  have hl := srt_len ks
  rw [sres_ok hg hw, if_pos (by show (decide ((0 : Int) ≤ 1) && decide ((1 : Int) ≤ (ks.length : Int))) = true; rw [Bool.and_eq_true, decide_eq_true_iff, decide_eq_true_iff]; omega)]
  have hso := sres_ok (m := .int 1) hg hw
  rw [if_pos (by show (decide ((0 : Int) ≤ 1) && decide ((1 : Int) ≤ (ks.length : Int))) = true; rw [Bool.and_eq_true, decide_eq_true_iff, decide_eq_true_iff]; omega)] at hso
  have hn : (srt ks).length < 6 := by omega
  have := wres_row hn hso.symm fun b j => noFall kvs ks _ b j
  have hb : badW ((rowS kvs (srt ks) (toI (.int 1)).toNat).map V.int) = none := by
    refine List.find?_eq_none.mpr fun v hv => ?_
    obtain ⟨z, hz, rfl⟩ := List.mem_map.mp hv
    unfold rowS at hz
    obtain ⟨b, hbm, rfl⟩ := List.mem_map.mp hz
    have hsub := bag_sub (all_in (srt ks).length hn b (List.mem_of_mem_drop hbm)).2
    have h0 := sums_nonneg (m := (toI (.int 1)).toNat) hw hsub
    have h9 : sums kvs (bagI (srt ks) b) 1 ≤ 1000000 := by
      unfold sums
      cases hd : dsc ((bagI (srt ks) b).map fun s => toI (amt kvs s)) with
      | nil => simp
      | cons x r =>
        have hx : x ∈ (bagI (srt ks) b).map fun s => toI (amt kvs s) := (List.mergeSort_perm _ _).mem_iff.mp (by
          show x ∈ dsc _
          rw [hd]
          exact List.mem_cons_self)
        obtain ⟨s, hs, rfl⟩ := List.mem_map.mp hx
        have := List.find?_eq_none.mp hw s (hsub s hs)
        simp
        revert this
        cases amt kvs s <;> simp [wholeB, toI]
    show ¬ (!wholeB (.int _) 0 1000000) = true
    simp [wholeB]
    exact ⟨h0, h9⟩
  rw [hb] at this
  rw [← hso]
  exact this
theorem TabAt.put {CT y pd : Addr} {ws : List Str} {zs : List Int} {H : Hp} {kvs : List (L2.Key × V)} {o : HO} (hp : H pd = some (.dK kvs)) (h : TabAt CT y ws zs H) : TabAt CT y ws zs (upd H pd o) := by
  have ne : ∀ {b : Addr} {u : HO}, H b = some u → (∀ k, u ≠ .dK k) → (upd H pd o) b = some u := fun {b u} hb hu => by
    rw [upd_ne fun e => ?_]
    · exact hb
    · rw [e, hp] at hb
      exact hu _ (Option.some.inj hb).symm
  obtain ⟨dx, g, d, n, h1, h2, h3, h4⟩ := h
  exact ⟨dx, g, d, n, ne h1 (fun _ h => nomatch h), ne h2 (fun _ h => nomatch h), ne h3 (fun _ h => nomatch h), ne h4 (fun _ h => nomatch h)⟩
end Lw

namespace Lw
open PySem PySem.Spec PyProof.Rows L2
theorem SameD.self {kvs : List (Key × V)} {ks : List Str} (hk : KD kvs ks) (hn : ks.Nodup) : SameD kvs kvs ks := ⟨ks, hk, hn, fun _ => Iff.rfl, fun _ _ => rfl⟩
theorem SameD.two {A B kvs : List (Key × V)} {ks : List Str} (a : SameD A kvs ks) (b : SameD B kvs ks) (hk : KD kvs ks) (am : ∀ s ∈ ks, SameV (amt kvs s) (amt kvs s)) : A.length = B.length ∧ ∀ p ∈ A, ∃ y, valV B p.1 = some y ∧ SameV p.2 y := by
  obtain ⟨k1, a1, a2, a3, a4⟩ := a
  obtain ⟨k2, b1, b2, b3, b4⟩ := b
  have hp : k1.Perm k2 := (List.perm_ext_iff_of_nodup a2 b2).mpr fun s => (a3 s).trans (b3 s).symm
  refine ⟨by rw [a1.len, b1.len, hp.length_eq], fun p hpm => ?_⟩
  obtain ⟨s, hs, e⟩ := a1.key hpm
  have hsk := (a3 s).mp hs
  have hv := hk.amtV hsk
  have h1 := a1.val a2 hpm
  rw [e, a4 s hsk, hv] at h1
  have h1 := Option.some.inj h1
  refine ⟨amt kvs s, by rw [e, b4 s hsk, hv], ?_⟩
  rw [← h1]
  exact am s hsk
theorem KD.same {kvs : List (Key × V)} {ks : List Str} {H : Hp} (hk : KD kvs ks) (hA : ∀ p ∈ kvs, AmX H p.2) : ∀ s ∈ ks, SameV (amt kvs s) (amt kvs s) := fun s hs => (hk.amX hA hs).same
theorem DS.apT {H : Hp} {st b : Addr} {n : Nat} {o : HO} (D : DS H st n) (h : H b = some o) (ho : ∀ l, o ≠ .lst l) : Ap H st b o := by
  obtain ⟨q, r, bs, cs, c, d, _⟩ := D
  refine (ap_iff d).mpr ⟨h, fun e => ?_, fun e => ?_, fun e => ?_⟩
  · rw [e, d.st'] at h
    exact ho _ (Option.some.inj h).symm
  · rw [e, d.q'] at h
    exact ho _ (Option.some.inj h).symm
  · rw [e, d.r'] at h
    exact ho _ (Option.some.inj h).symm
theorem AmS.putD {st d : Addr} {n : Nat} {H : Hp} {v : V} {kvs : List (Key × V)} {o : HO} (h : AmS st H v) (D : DS H st n) (hd : Ap H st d (.dK kvs)) : AmS st (upd H d o) v := by
  rcases h with a | a | a | a | ⟨t, h1, h2⟩
  · exact .inl a
  · exact .inr (.inl a)
  · exact .inr (.inr (.inl a))
  · exact .inr (.inr (.inr (.inl a)))
  · refine .inr (.inr (.inr (.inr ⟨t, h1, Ap.put D hd h2 fun e => ?_⟩)))
    have := h2.1
    rw [e, hd.1] at this
    cases this
theorem ToldAt.ex {p : Addr} {kvs : List (Key × V)} {ks : List Str} {u : V} {H H' : Hp} (h : ToldAt p kvs ks u H) (e : Evl.Ex H H') : ToldAt p kvs ks u H' := by
  unfold ToldAt at h ⊢
  cases hp : sres kvs ks u with
  | cnt => rw [hp] at h; exact e _ _ h
  | nm s => rw [hp] at h; exact e _ _ h
  | tw s => rw [hp] at h; exact h.elim
  | worth v => rw [hp] at h; exact e _ _ h
  | fall b j => rw [hp] at h; exact h.elim
  | ok =>
    rw [hp] at h
    obtain ⟨g, n, h1, h2, h3⟩ := h
    exact ⟨g, n, e _ _ h1, e _ _ h2, e _ _ h3⟩
abbrev s_law : Stmt := topS 49
abbrev n_law : List Str := ["_law_script", "_law_state", "_law_labels", "_law_turn", "_law_given", "_law_scale", "_law_label", "_law_turned", "_law_passed", "_law_plan", "_law_cap", "_law_many", "_law_due_here", "_law_table", "_law_some"]
theorem sc_law : FnScope n_law ["_law_script"] (defScope s_law) := ⟨rfl, rfl, rfl, by decide +kernel, rfl, by decide +kernel, by decide +kernel⟩
section
variable {P : Program} {w : World} {K : PySem.W.Frag} {mg : Str → Option Value} {base : Heap}
def sp_law (K : PySem.W.Frag) : Sp := fun vs H Q _ => ∃ (a : Addr) (ns : List Int), vs = [.ref a] ∧ SqL K H a (ns.map V.int) ∧ ns.length ≤ 63 ∧ ∀ H', Q (.bl true) H'
theorem ok_law {c : CTs} {f f1 f2 f3 f4 f5 f6 f7 f8 fs fp fo fe ps pp po : Addr} {fd fd1 fd2 fd3 fd4 fd5 fd6 fd7 fd8 fds fdp fdo fde : FuncData} {mc : Value} (F : Fun K "law" "law" s_law f fd)
    (F_law_start : Fun K "_law_start" "_law_start" s_law_start f1 fd1) (b_law_start : Binds K fd1 ["_law_script"] []) (g_law_start : mg "_law_start" = some (.ref f1)) (G_law_start : FnOk P w K mg base CX0 1 f1 fd1 ["_law_script"] (sp_start K))
    (F_law_draw : Fun K "_law_draw" "_law_draw" s_law_draw f2 fd2) (b_law_draw : Binds K fd2 ["_law_state", "_law_size"] []) (g_law_draw : mg "_law_draw" = some (.ref f2)) (G_law_draw : FnOk P w K mg base CX0 1 f2 fd2 ["_law_state", "_law_size"] sp_drawW)
    (F_law_names : Fun K "_law_names" "_law_names" s_law_names f3 fd3) (b_law_names : Binds K fd3 ["_law_state", "_law_count"] []) (g_law_names : mg "_law_names" = some (.ref f3)) (G_law_names : FnOk P w K mg base CX0 2 f3 fd3 ["_law_state", "_law_count"] sp_names)
    (F_law_order : Fun K "_law_order" "_law_order" s_law_order f4 fd4) (b_law_order : Binds K fd4 ["_law_state", "_law_items"] []) (g_law_order : mg "_law_order" = some (.ref f4)) (G_law_order : FnOk P w K mg base CX0 2 f4 fd4 ["_law_state", "_law_items"] (sp_order K))
    (F_law_odd : Fun K "_law_odd" "_law_odd" s_law_odd f5 fd5) (b_law_odd : Binds K fd5 ["_law_state"] []) (g_law_odd : mg "_law_odd" = some (.ref f5)) (G_law_odd : FnOk P w K mg base CX0 2 f5 fd5 ["_law_state"] sp_odd)
    (F_law_due : Fun K "_law_due" "_law_due" s_law_due f6 fd6) (b_law_due : Binds K fd6 ["_law_plan", "_law_given", "_law_many"] []) (g_law_due : mg "_law_due" = some (.ref f6)) (G_law_due : FnOk P w K mg base CX0 2 f6 fd6 ["_law_plan", "_law_given", "_law_many"] sp_tmade)
    (F_law_made : Fun K "_law_made" "_law_made" s_law_made f7 fd7) (b_law_made : Binds K fd7 ["_law_plan", "_law_given", "_law_many"] []) (g_law_made : mg "_law_made" = some (.ref f7)) (G_law_made : FnOk P w K mg base CX0 8 f7 fd7 ["_law_plan", "_law_given", "_law_many"] sp_tmade)
    (F_law_told : Fun K "_law_told" "_law_told" s_law_told f8 fd8) (b_law_told : Binds K fd8 ["_law_table"] []) (g_law_told : mg "_law_told" = some (.ref f8)) (G_law_told : FnOk P w K mg base CX0 3 f8 fd8 ["_law_table"] (sp_told c.CT))
    (g_Table : mg "Table" = some (.ref c.CT)) (r_Table : ClX.CRead K c.CT mc)
    (cm_some : ClX.CMet K c.CT mc "some_of" ps fs) (G_some : FnOk P w K mg base (L2.CX P w) 6 fs fds ["cls", "amounts", "most"] (sp_some c)) (kb_some : KBinds K fds ["cls", "amounts", "most"] ["most", "amounts"] kwG2 kwG2)
    (cm_plain : ClX.CMet K c.CT mc "plain" pp fp) (G_plain : FnOk P w K mg base (L2.CX P w) 7 fp fdp ["cls", "amounts"] (sp_plain c)) (kb_plain : KBinds K fdp ["cls", "amounts"] ["amounts"] kwG kwG)
    (cm_one : ClX.CMet K c.CT mc "one_of" po fo) (G_one : FnOk P w K mg base (L2.CX P w) 7 fo fdo ["cls", "amounts"] (sp_one c)) (kb_one : KBinds K fdo ["cls", "amounts"] ["amounts"] kwG kwG)
    (O_Table : OwnEq K c.CT fe) (G_Table_eq : FnOk P w K mg base CX0 1 fe fde ["self", "other"] (sp_teq c.CT)) (b_Table_eq : Binds K fde ["self", "other"] [])
    (m_len : mg "len" = none) (m_range : mg "range" = none) (m_dict : mg "dict" = none) (m_list : mg "list" = none) : FnOk P w K mg base CX0 9 f fd ["_law_script"] (sp_law K) := by
  refine F.ok sc_law (fun vs H Q E h => ?_) (fun cdv A outer s H vs Q E hr h => ?_)
  · obtain ⟨a, ns, rfl, _⟩ := h
    rfl
  · obtain ⟨a, ns, rfl, hS, hlen, hQ⟩ := h
    refine ⟨_, (pss_cons (ps_set (i := 1) sc_law.nd rfl (by first | exact .inl rfl | exact .inr rfl) (pe_call G_law_start (hr.mono (by decide)) (by rfl) g_law_start F_law_start.kp b_law_start .nil pass0 (pa_cons (pv 0) pa_nil)))
  (Evl.pss_cut (ps_set (i := 2) sc_law.nd rfl (by first | exact .inl rfl | exact .inr rfl) (pe_call G_law_names (hr.mono (by decide)) (by rfl) g_law_names F_law_names.kp b_law_names .nil pass0 (pa_cons (pv 1) (pa_cons (pe_ix ix_list (pe_lst (pa_cons pe_int (pa_cons pe_int (pa_cons pe_int (pa_cons pe_int (pa_cons pe_int (pa_cons pe_int (pa_cons pe_int (pa_cons pe_int (pa_cons pe_int pa_nil)))))))))) (pe_call G_law_draw (hr.mono (by decide)) (by rfl) g_law_draw F_law_draw.kp b_law_draw .nil pass0 (pa_cons (pv 1) (pa_cons pe_int pa_nil))) (fun _ _ => rfl)) pa_nil))))
  (Evl.pss_cut (ps_for PassesOwn.never rfl  (pi_range1 (by rfl) m_range (pa_cons (pe_ix ix_list (pe_lst (pa_cons pe_int (pa_cons pe_int (pa_cons pe_int (pa_cons pe_int (pa_cons pe_int (pa_cons pe_int (pa_cons pe_int (pa_cons pe_int pa_nil))))))))) (pe_call G_law_draw (hr.mono (by decide)) (by rfl) g_law_draw F_law_draw.kp b_law_draw .nil pass0 (pa_cons (pv 1) (pa_cons pe_int pa_nil))) (fun _ _ => rfl)) pa_nil)) (pg_name (i := 3) sc_law.nd rfl (by first | exact .inl rfl | exact .inr rfl))
   (pss_one (ps_if (pt_cmpR (op_neD hr.units) (pv 2) (pe_lst pa_nil) (nomark _))
   (pss_one (ps_asg (pe_ix ix_list (pe_lst (pa_cons pe_str (pa_cons pe_str (pa_cons pe_str (pa_cons pe_str pa_nil))))) (pe_call G_law_draw (hr.mono (by decide)) (by rfl) g_law_draw F_law_draw.kp b_law_draw .nil pass0 (pa_cons (pv 1) (pa_cons pe_int pa_nil))) (fun _ _ => rfl)) (pg_sub (pv 2) (pe_call G_law_draw (hr.mono (by decide)) (by rfl) g_law_draw F_law_draw.kp b_law_draw .nil pass0 (pa_cons (pv 1) (pa_cons (pe_callB call_len_seq (by rfl) m_len PySem.boot_len (pa_cons (pv 2) pa_nil)) pa_nil))) set_list)))
   pss_nil)))
  (pss_cons (ps_set (i := 4) sc_law.nd rfl (by first | exact .inl rfl | exact .inr rfl) pe_dnewK)
  (pss_cons (ps_set (i := 5) sc_law.nd rfl (by first | exact .inl rfl | exact .inr rfl) (pe_ix ix_list (pe_lst (pa_cons pe_int (pa_cons pe_int (pa_cons pe_int (pa_cons pe_int pa_nil))))) (pe_call G_law_draw (hr.mono (by decide)) (by rfl) g_law_draw F_law_draw.kp b_law_draw .nil pass0 (pa_cons (pv 1) (pa_cons pe_int pa_nil))) (fun _ _ => rfl)))
  (Evl.pss_cut (ps_for PassesOwn.never rfl  (pi_list (pv 2)) (pg_name (i := 6) sc_law.nd rfl (by first | exact .inl rfl | exact .inr rfl))
   (pss_one (ps_dput (hu_of hr) (pv 4) (pv 6) (pe_call G_law_draw (hr.mono (by decide)) (by rfl) g_law_draw F_law_draw.kp b_law_draw .nil pass0 (pa_cons (pv 1) (pa_cons (pv 5) pa_nil))) rfl)))
  (Evl.pss_cut (ps_for PassesOwn.never rfl  (pi_range1 (by rfl) m_range (pa_cons (pe_ix ix_list (pe_lst (pa_cons pe_int (pa_cons pe_int (pa_cons pe_int (pa_cons pe_int pa_nil))))) (pe_call G_law_draw (hr.mono (by decide)) (by rfl) g_law_draw F_law_draw.kp b_law_draw .nil pass0 (pa_cons (pv 1) (pa_cons pe_int pa_nil))) (fun _ _ => rfl)) pa_nil)) (pg_name (i := 3) sc_law.nd rfl (by first | exact .inl rfl | exact .inr rfl))
   (pss_one (ps_if (pt_cmpR (op_neD hr.units) (pv 2) (pe_lst pa_nil) (nomark _))
   (pss_one (ps_dput (hu_of hr) (pv 4) (pe_ix ix_list (pv 2) (pe_call G_law_draw (hr.mono (by decide)) (by rfl) g_law_draw F_law_draw.kp b_law_draw .nil pass0 (pa_cons (pv 1) (pa_cons (pe_callB call_len_seq (by rfl) m_len PySem.boot_len (pa_cons (pv 2) pa_nil)) pa_nil))) (fun _ _ => rfl)) (pe_call G_law_odd (hr.mono (by decide)) (by rfl) g_law_odd F_law_odd.kp b_law_odd .nil pass0 (pa_cons (pv 1) pa_nil)) rfl))
   pss_nil)))
  (pss_cons (ps_set (i := 7) sc_law.nd rfl (by first | exact .inl rfl | exact .inr rfl) pe_dnewK)
  (Evl.pss_cut (ps_for PassesOwn.never rfl  (pi_list (pe_call G_law_order (hr.mono (by decide)) (by rfl) g_law_order F_law_order.kp b_law_order .nil pass0 (pa_cons (pv 1) (pa_cons (pe_callTy (call_listD rfl) (by rfl) m_list (by decide +kernel) (pa_cons (pv 4) pa_nil)) pa_nil)))) (pg_name (i := 6) sc_law.nd rfl (by first | exact .inl rfl | exact .inr rfl))
   (pss_one (ps_dput (hu_of hr) (pv 7) (pv 6) (pe_dget (hu_of hr) (pv 4) (pv 6) (fun _ _ => rfl)) rfl)))
  (pss_cons (ps_set (i := 8) sc_law.nd rfl (by first | exact .inl rfl | exact .inr rfl) (pe_callTy call_dictD (by rfl) m_dict (by decide +kernel) (pa_cons (pv 7) pa_nil)))
  (pss_cons (ps_for PassesOwn.never rfl  (pi_list (pe_lst (pa_cons pe_int (pa_cons pe_int (pa_cons pe_int pa_nil))))) (pg_name (i := 9) sc_law.nd rfl (by first | exact .inl rfl | exact .inr rfl))
   (pss_cons (ps_set (i := 10) sc_law.nd rfl (by first | exact .inl rfl | exact .inr rfl) (pe_op op_sub (pe_call G_law_draw (hr.mono (by decide)) (by rfl) g_law_draw F_law_draw.kp b_law_draw .nil pass0 (pa_cons (pv 1) (pa_cons (pe_op op_add (pe_callB call_lenD (by rfl) m_len PySem.boot_len (pa_cons (pv 4) pa_nil)) pe_int) pa_nil))) pe_int))
  (pss_cons (ps_set (i := 11) sc_law.nd rfl (by first | exact .inl rfl | exact .inr rfl) (pe_ix ix_list (pe_lst (pa_cons (pv 10) (pa_cons (pv 10) (pa_cons (pv 10) (pa_cons pe_bl (pa_cons pe_non pa_nil)))))) (pe_call G_law_draw (hr.mono (by decide)) (by rfl) g_law_draw F_law_draw.kp b_law_draw .nil pass0 (pa_cons (pv 1) (pa_cons pe_int pa_nil))) (fun _ _ => rfl)))
  (pss_cons (ps_set (i := 12) sc_law.nd rfl (by first | exact .inl rfl | exact .inr rfl) (pe_call G_law_due (hr.mono (by decide)) (by rfl) g_law_due F_law_due.kp b_law_due .nil pass0 (pa_cons (pv 9) (pa_cons (pv 4) (pa_cons (pv 11) pa_nil)))))
  (pss_one (ps_if (PW.pt (pw_or (pt_cmpR (op_neL (n := 8) (Nat.lt_of_le_of_lt (Nat.add_le_add_left (show 9 ≤ 64 by decide) _) hr.units)) (pe_call G_law_made (hr.mono (by decide)) (by rfl) g_law_made F_law_made.kp b_law_made .nil pass0 (pa_cons (pv 9) (pa_cons (pv 8) (pa_cons (pv 11) pa_nil)))) (pv 12) (nomark _)) (pw_or (pt_cmpR (op_neDict (Nat.lt_of_le_of_lt (Nat.le_add_right _ 64) hr.units)) (pv 8) (pv 7) (nomark _)) (pw_or1 (pt_cmpR (op_neL (n := 8) (Nat.lt_of_le_of_lt (Nat.add_le_add_left (show 9 ≤ 64 by decide) _) hr.units)) (pe_call G_law_made (hr.mono (by decide)) (by rfl) g_law_made F_law_made.kp b_law_made .nil pass0 (pa_cons (pv 9) (pa_cons (pv 4) (pa_cons (pv 11) pa_nil)))) (pv 12) (nomark _))))))
   (pss_one (ps_ret pe_bl))
   pss_nil))))))
  (pss_cons (ps_if (PW.pt (pw_or (pt_cmpR (op_eqD hr.units) (pv 2) (pe_lst pa_nil) (nomark _)) (pw_or1 (pt_cmpR op_ne (pe_ix ix_list (pe_call G_law_due (hr.mono (by decide)) (by rfl) g_law_due F_law_due.kp b_law_due .nil pass0 (pa_cons pe_int (pa_cons (pv 4) (pa_cons pe_int pa_nil)))) pe_int (fun _ _ => rfl)) pe_str (nomark _)))))
   (pss_one (ps_ret pe_bl))
   pss_nil)
  (pss_cons (ps_set (i := 13) sc_law.nd rfl (by first | exact .inl rfl | exact .inr rfl) (pe_cmK (pe_cls (by rfl) g_Table) r_Table cm_plain G_plain (hr.mono (by decide)) kb_plain (fun σ pins => passL pins σ) (pk_cons (pv 8) pk_nil)))
  (pss_cons (ps_expr (pe_dclear (pv 8)))
  (pss_cons (ps_set (i := 14) sc_law.nd rfl (by first | exact .inl rfl | exact .inr rfl) (pe_cmK (pe_cls (by rfl) g_Table) r_Table cm_some G_some (hr.mono (by decide)) kb_some (fun σ pins => passL pins σ) (pk_cons pe_int (pk_cons (pv 4) pk_nil))))
  (pss_one (ps_ret (pe_and (pe_cmpR (op_eqD hr.units) (pe_call G_law_told (hr.mono (by decide)) (by rfl) g_law_told F_law_told.kp b_law_told .nil pass0 (pa_cons (pv 13) pa_nil)) (pe_call G_law_due (hr.mono (by decide)) (by rfl) g_law_due F_law_due.kp b_law_due .nil pass0 (pa_cons pe_int (pa_cons (pv 4) (pa_cons pe_int pa_nil)))) (nomark _)) (pe_one (pe_cmpR (op_eqOwn O_Table G_Table_eq (hr.mono (by decide)) b_Table_eq pass0) (pv 14) (pe_cmK (pe_cls (by rfl) g_Table) r_Table cm_one G_one (hr.mono (by decide)) kb_one (fun σ pins => passL pins σ) (pk_cons (pv 4) pk_nil)) (nomark _))))))))))))))))))))), ?_⟩
    refine ⟨.ref a, rfl, a, ns, rfl, hS, hlen, fun st H1 D1 _ => ?_⟩
    -- the names
    refine ⟨fun σ' H' => ∃ (wd : Addr) (ws : List Str), σ' = [some (.ref a), some (.ref st), some (.ref wd), none, none, none, none, none, none, none, none, none, none, none, none] ∧ DS H' st 100 ∧ Ap H' st wd (.lst (ws.map V.str)) ∧ ws.length ≤ 6 ∧ Asc 7 ws, ?_, ?_⟩
    · refine ⟨.ref st, rfl, Nat.le_trans (by decide : 9 ≤ 1000) (by decide), fun p np => ?_⟩
      refine ⟨.ref st, rfl, st, 9, 0, rfl, D1.new np, by omega, by omega, by omega, fun d1 H3 d10 d11 D4 k4 => ?_⟩
      have ap4 := k4 _ _ (D1.fresh np)
      obtain ⟨v, hv, hm⟩ := atI_some (xs := [V.int 1, V.int 2, V.int 3, V.int 4, V.int 5, V.int 5, V.int 5, V.int 6, V.int 0]) d10 d11
      obtain ⟨size, rfl, hs0, hs1⟩ : ∃ size : Int, v = .int size ∧ 0 ≤ size ∧ size ≤ 6 := by
        simp only [List.mem_cons, List.not_mem_nil, or_false] at hm
        rcases hm with rfl | rfl | rfl | rfl | rfl | rfl | rfl | rfl | rfl <;> exact ⟨_, rfl, by omega, by omega⟩
      refine ⟨p, _, d1, .int size, rfl, rfl, .inl (.inl ap4.1), hv, st, size, 1, rfl, D4, by omega, hs0, by omega, fun q ws H5 D6 k6 fr ap hl hv nd => ?_⟩
      refine ⟨q, ws, rfl, D6.mono (by omega), ap, by omega, fun z hz => ?_⟩
      have hz' := hv z hz
      exact ⟨Nat.le_trans (vn_parts hz').2.1 (by omega), fun c hc => Nat.lt_trans (isN_lt ((vn_parts hz').2.2 c hc)) (by decide)⟩
    clear D1 hS hlen
    rintro σ' H' ⟨wd, ws, rfl, D, aw, wl, wa⟩
    -- faults
    refine ⟨fun σ' H' => ∃ (ws : List Str) (o3 : Option V), σ' = [some (.ref a), some (.ref st), some (.ref wd), o3, none, none, none, none, none, none, none, none, none, none, none] ∧ DS H' st 200 ∧ Ap H' st wd (.lst (ws.map V.str)) ∧ ws.length ≤ 6 ∧ Asc 7 ws, ?_, ?_⟩
    · refine ⟨Nat.le_trans (by decide : 8 ≤ 1000) (by decide), fun p np => ?_⟩
      refine ⟨.ref st, rfl, st, 8, 100, rfl, D.new np, by omega, by omega, by omega, fun d1 H3 d10 d11 D4 k4 => ?_⟩
      have ap4 := k4 _ _ (D.fresh np)
      have aw4 := k4 _ _ (D.newK np _ _ aw)
      obtain ⟨v, hv, hm⟩ := atI_some (xs := [V.int 0, V.int 0, V.int 0, V.int 0, V.int 0, V.int 0, V.int 1, V.int 2]) d10 d11
      obtain ⟨size, rfl, hs0, hs1⟩ : ∃ size : Int, v = .int size ∧ 0 ≤ size ∧ size ≤ 2 := by
        simp only [List.mem_cons, List.not_mem_nil, or_false] at hm
        rcases hm with rfl | rfl | rfl | rfl | rfl | rfl | rfl | rfl <;> exact ⟨_, rfl, by omega, by omega⟩
      refine ⟨p, _, d1, .int size, rfl, rfl, .inl (.inl ap4.1), hv, size, rfl, by omega, by omega, for_range (lo := 0) (n := size.toNat) (fun i σ' H' => ∃ (ws : List Str) (o3 : Option V), σ' = [some (.ref a), some (.ref st), some (.ref wd), o3, none, none, none, none, none, none, none, none, none, none, none] ∧ DS H' st (101 + 10 * i) ∧ Ap H' st wd (.lst (ws.map V.str)) ∧ ws.length ≤ 6 ∧ Asc 7 ws)
        ⟨ws, _, rfl, D4, aw4, wl, wa⟩ (fun i σ' H' hi ⟨ws, o3, es, Di, ai, li, ci⟩ => ?_) (fun σ' H' ⟨ws, o3, es, Di, ai, li, ci⟩ => ⟨ws, o3, es, Di.mono (by omega), ai, li, ci⟩)⟩
      subst es
      refine ⟨.ref wd, rfl, Nat.zero_le _, fun e ne => ?_⟩
      have D7 := Di.new (o := .lst []) ne
      have ap7 := Di.newK (o := .lst []) ne _ _ ai
      refine ⟨_, _, dp_strs (Evl.sq_of ap7.1), dp_empty (Evl.sq_of upd_same), (good_strs fun z h => (ci.ok (by omega) z h).2).shaped (by decide), sh_empty, _, rfl, ?_⟩
      rw [eqv_nil_map]
      by_cases h0 : ws = []
      · rw [decide_eq_true h0]
        exact ⟨ws, _, rfl, D7.mono (by omega), ap7, li, ci⟩
      rw [decide_eq_false h0]
      have hpos := List.length_pos_iff.mpr h0
      refine ⟨Nat.le_trans (by decide : 4 ≤ 1000) (by decide), fun o no => ?_⟩
      refine ⟨.ref st, rfl, st, 4, 101 + 10 * i, rfl, D7.new no, by omega, by omega, by omega, fun d2 H9 d20 d21 D9 k9 => ?_⟩
      have ap9 := k9 _ _ (D7.newK no _ _ ap7)
      have ao9 := k9 _ _ (D7.fresh no)
      obtain ⟨v9, hv9, hm9⟩ := atI_some (xs := [V.str "", V.str "X", V.str "1a", V.str "abcdefg"]) d20 d21
      refine ⟨o, _, d2, v9, rfl, rfl, Evl.sq_of ao9.1, hv9, ?_⟩
      refine ⟨.ref wd, rfl, .ref st, rfl, .ref wd, rfl, wd, _, rfl, .inl (Evl.sq_of ap9.1), st, ((ws.map V.str).length : Int), 102 + 10 * i, rfl, D9.mono (by omega), by omega, by rw [List.length_map]; omega, by rw [List.length_map]; omega, fun d3 H10 d30 d31 D10 k10 => ?_⟩
      have ap10 := k10 _ _ ap9
      obtain ⟨j, hj, hjl⟩ := ixN_some d30 d31
      rw [List.length_map] at hjl
      have lit : ∀ {y : Str}, (decide (y.length ≤ 7) && y.cps.toList.all fun c => decide (c < 128)) = true → y.length ≤ 7 ∧ ∀ c ∈ y.cps.toList, c < 128 := fun {y} k => by
        rw [Bool.and_eq_true, decide_eq_true_iff, List.all_eq_true] at k
        exact ⟨k.1, fun c hc => of_decide_eq_true (k.2 c hc)⟩
      obtain ⟨y, rfl, hy⟩ : ∃ y : Str, v9 = .str y ∧ y.length ≤ 7 ∧ ∀ c ∈ y.cps.toList, c < 128 := by
        simp only [List.mem_cons, List.not_mem_nil, or_false] at hm9
        rcases hm9 with rfl | rfl | rfl | rfl <;> exact ⟨_, rfl, lit (by decide +kernel)⟩
      refine ⟨wd, _, d3, j, rfl, rfl, ap10.1, hj, ws.set j y, _, rfl, (D10.put ap10).mono (by omega), ?_, by rw [List.length_set]; exact li, ?_⟩
      · rw [List.map_set]
        exact D10.putA ap10
      · intro x hx
        rcases List.mem_or_eq_of_mem_set hx with h | rfl
        · exact ci x h
        · exact hy
    clear D aw wl wa ws H'
    rintro σ' H' ⟨ws, o3, rfl, D, aw, wl, wa⟩
    have hTw := wa.ok (by decide)
    -- the dict
    intro d nd
    have D1 := D.new (o := .dK []) nd
    have aw1 := D.newK (o := .dK []) nd _ _ aw
    have ad1 := D.fresh (o := .dK []) nd
    have newd : wd ≠ d := ne_of_none aw.1 nd
    refine ⟨Nat.le_trans (by decide : 4 ≤ 1000) (by decide), fun p np => ?_⟩
    refine ⟨.ref st, rfl, st, 4, 200, rfl, D1.new np, by omega, by omega, by omega, fun d1 H3 d10 d11 D4 k4 => ?_⟩
    have ap4 := k4 _ _ (D1.fresh np)
    have aw4 := k4 _ _ (D1.newK np _ _ aw1)
    have ad4 := k4 _ _ (D1.newK np _ _ ad1)
    obtain ⟨v, hv, hm⟩ := atI_some (xs := [V.int 4, V.int 61, V.int 400000, V.int 1000001]) d10 d11
    obtain ⟨sc, rfl, hs0, hs1⟩ : ∃ size : Int, v = .int size ∧ 0 < size ∧ size ≤ 100000000000000000000 := by
      simp only [List.mem_cons, List.not_mem_nil, or_false] at hm
      rcases hm with rfl | rfl | rfl | rfl <;> exact ⟨_, rfl, by decide, by decide⟩
    refine ⟨p, _, d1, .int sc, rfl, rfl, .inl (.inl ap4.1), hv, ?_⟩
    dsimp only [gName, List.set]
    refine ⟨fun σ' H' => ∃ (kvs : List (Key × V)) (ks : List Str) (o6 : Option V), σ' = [some (.ref a), some (.ref st), some (.ref wd), o3, some (.ref d), some (.int sc), o6, none, none, none, none, none, none, none, none] ∧ DS H' st 300 ∧ Ap H' st wd (.lst (ws.map V.str)) ∧ Ap H' st d (.dK kvs) ∧ KD kvs ks ∧ ks.Nodup ∧ (∀ s, s ∈ ks ↔ s ∈ ws) ∧ ks.length ≤ ws.length ∧ (∀ p ∈ kvs, ∃ i, p.2 = .int i), ?_, ?_⟩
    · skip
      refine ⟨.ref wd, rfl, wd, rfl, ⟨_, Evl.sq_of aw4.1⟩, ?_⟩
      refine for_it (walk_list (xs := ws.map V.str)) (fun i σ' H' => ∃ o6 kvs ks, σ' = [some (.ref a), some (.ref st), some (.ref wd), o3, some (.ref d), some (.int sc), o6, none, none, none, none, none, none, none, none] ∧ DS H' st (201 + i) ∧ Ap H' st wd (.lst (ws.map V.str)) ∧ Ap H' st d (.dK kvs) ∧ KD kvs ks ∧ ks.Nodup ∧ ks.length ≤ i ∧ (∀ s, s ∈ ks ↔ s ∈ ws.take i) ∧ (∀ p ∈ kvs, ∃ j, p.2 = .int j))
        ⟨none, [], [], rfl, D4, aw4, ad4, rfl, List.nodup_nil, Nat.le_refl _, fun s => by simp, fun _ h => by cases h⟩ (fun i σ' H' _ h => ?_) (fun i x σ' H' H'' hi h y => ?_) (fun σ' H' h => ?_)
      · obtain ⟨_, _, _, _, _, h3, _⟩ := h
        exact Evl.sq_of h3.1
      · obtain ⟨o6, kvs, ks, rfl, Di, aw, ad, hk, hnd, hkl, hm, hv⟩ := h
        obtain ⟨rfl, hx⟩ := y
        rw [List.length_map] at hi
        rw [List.getElem?_map] at hx
        obtain ⟨z, hz1, rfl⟩ := Option.map_eq_some_iff.mp hx
        dsimp only [gName, List.set]
        refine ⟨.ref st, rfl, .int sc, rfl, st, sc, 201 + i, rfl, Di, by omega, hs0, hs1, fun e H5 e0 e1 D5 k5 => ?_⟩
        have ad5 := k5 _ _ ad
        have aw5 := k5 _ _ aw
        refine ⟨.ref d, rfl, .str z, rfl, d, _, rfl, DPut.k (k := .inr z) ad5.1 (Evl.sz_lt (by rw [hk.len]; omega)), ?_⟩
        refine ⟨_, putK kvs (.inr z) (.int e), addK ks z, rfl, D5.put ad5, Ap.put D5 ad5 aw5 newd, D5.putA ad5, hk.put z _, addK_nd hnd, Nat.le_trans addK_len (by omega), fun s => ?_, fun q hq => ?_⟩
        · rw [addK_mem, hm, List.take_add_one, hz1, List.mem_append]
          simp
        · rcases put_mem hq with h | h
          · exact hv q h
          · exact ⟨e, h⟩
      · obtain ⟨o6, kvs, ks, rfl, Di, aw, ad, hk, hnd, hkl, hm, hv⟩ := h
        rw [List.length_map] at Di hm hkl
        exact ⟨kvs, ks, o6, rfl, Di.mono (by omega), aw, ad, hk, hnd, fun s => by rw [hm, List.take_length], by omega, hv⟩
    clear D D1 D4 aw aw1 aw4 ad1 ad4 ap4 nd np
    rintro σ' H' ⟨kvs, ks, o6, rfl, D, aw, ad, hk, hn, hmem, hkl, hint⟩
    -- faults
    refine ⟨fun σ' H' => ∃ (kvs : List (Key × V)) (o3 : Option V), σ' = [some (.ref a), some (.ref st), some (.ref wd), o3, some (.ref d), some (.int sc), o6, none, none, none, none, none, none, none, none] ∧ DS H' st 400 ∧ Ap H' st wd (.lst (ws.map V.str)) ∧ Ap H' st d (.dK kvs) ∧ KD kvs ks ∧ (∀ p ∈ kvs, AmS st H' p.2), ?_, ?_⟩
    · refine ⟨Nat.le_trans (by decide : 4 ≤ 1000) (by decide), fun p np => ?_⟩
      refine ⟨.ref st, rfl, st, 4, 300, rfl, D.new np, by omega, by omega, by omega, fun d1 H3 d10 d11 D4 k4 => ?_⟩
      have ap4 := k4 _ _ (D.fresh np)
      have aw4 := k4 _ _ (D.newK np _ _ aw)
      have ad4 := k4 _ _ (D.newK np _ _ ad)
      obtain ⟨v, hv, hm⟩ := atI_some (xs := [V.int 0, V.int 0, V.int 1, V.int 2]) d10 d11
      obtain ⟨size, rfl, hs0, hs1⟩ : ∃ size : Int, v = .int size ∧ 0 ≤ size ∧ size ≤ 2 := by
        simp only [List.mem_cons, List.not_mem_nil, or_false] at hm
        rcases hm with rfl | rfl | rfl | rfl <;> exact ⟨_, rfl, by omega, by omega⟩
      refine ⟨p, _, d1, .int size, rfl, rfl, .inl (.inl ap4.1), hv, size, rfl, by omega, by omega, for_range (lo := 0) (n := size.toNat) (fun i σ' H' => ∃ (kvs : List (Key × V)) (o3 : Option V), σ' = [some (.ref a), some (.ref st), some (.ref wd), o3, some (.ref d), some (.int sc), o6, none, none, none, none, none, none, none, none] ∧ DS H' st (301 + 10 * i) ∧ Ap H' st wd (.lst (ws.map V.str)) ∧ Ap H' st d (.dK kvs) ∧ KD kvs ks ∧ (∀ p ∈ kvs, AmS st H' p.2))
        ⟨kvs, _, rfl, D4, aw4, ad4, hk, fun p hp => .inl (hint p hp)⟩ (fun i σ' H' hi ⟨kvs, o3, es, Di, ai, di, hki, hA⟩ => ?_) (fun σ' H' ⟨kvs, o3, es, Di, ai, di, hki, hA⟩ => ⟨kvs, o3, es, Di.mono (by omega), ai, di, hki, hA⟩)⟩
      subst es
      refine ⟨.ref wd, rfl, Nat.zero_le _, fun e ne => ?_⟩
      have D7 := Di.new (o := .lst []) ne
      have k7 := Di.newK (o := .lst []) ne
      have ap7 := k7 _ _ ai
      refine ⟨_, _, dp_strs (Evl.sq_of ap7.1), dp_empty (Evl.sq_of upd_same), (good_strs fun z h => (wa.ok (by omega) z h).2).shaped (by decide), sh_empty, _, rfl, ?_⟩
      rw [eqv_nil_map]
      refine ite2 (fun hc => ?_) (fun hc => ?_)
      · have h0 : ws ≠ [] := by simpa using hc
        have hpos := List.length_pos_iff.mpr h0
        refine ⟨.ref st, rfl, st, 302 + 10 * i, rfl, D7.mono (by omega), by omega, fun v H8 D8 k8 hv => ?_⟩
        have k28 := k7.trans k8
        have ai8 := k28 _ _ ai
        refine ⟨.ref d, rfl, .ref wd, rfl, .ref st, rfl, .ref wd, rfl, wd, _, rfl, .inl (Evl.sq_of ai8.1), st, ((ws.map V.str).length : Int), 303 + 10 * i, rfl, D8.mono (by omega), by omega, by rw [List.length_map]; omega, by rw [List.length_map]; omega, fun d3 H10 d30 d31 D10 k10 => ?_⟩
        obtain ⟨v8, hv8, hm8⟩ := atI_some d30 d31
        obtain ⟨z, hz2, rfl⟩ := List.mem_map.mp hm8
        have kk := k28.trans k10
        have di10 := kk _ _ di
        have ai10 := kk _ _ ai
        have hzk : addK ks z = ks := if_pos ((hmem z).mpr hz2)
        have newd : wd ≠ d := fun e => by
          have := ai10.1
          rw [e, di10.1] at this
          cases this
        refine ⟨wd, _, d3, .str z, rfl, rfl, Evl.sq_of ai10.1, hv8, d, _, rfl, DPut.k (k := .inr z) di10.1 (Evl.sz_lt (by rw [hki.len]; omega)), putK kvs (.inr z) v, _, rfl, (D10.put di10).mono (by omega), Ap.put D10 di10 ai10 newd, D10.putA di10, hzk ▸ hki.put z v, fun q hq => ?_⟩
        have hv2 : AmS st H10 v := hv.kp k10
        rcases put_mem hq with h | h
        · exact ((hA q h).kp kk).putD D10 di10
        · rw [h]
          exact hv2.putD D10 di10
      · exact ⟨kvs, _, rfl, D7.mono (by omega), ap7, k7 _ _ di, hki, fun p hp => (hA p hp).kp k7⟩
    clear D aw ad H' hk hint kvs
    rintro σ' H' ⟨kvs, o3, rfl, D, aw, ad, hk, hA⟩
    have hT : TxtOk ks := fun s hs => hTw s ((hmem s).mp hs)
    have hlen : ks.length ≤ 6 := by omega
    -- turned
    intro t nt
    have D1 := D.new (o := .dK []) nt
    have k1 := D.newK (o := .dK []) nt
    have at1 := D.fresh (o := .dK []) nt
    have aw1 := k1 _ _ aw
    have ad1 := k1 _ _ ad
    have ntd : t ≠ d := (ne_of_none ad.1 nt).symm
    dsimp only [gName, List.set]
    refine ⟨fun σ' H' => ∃ (kvs2 : List (Key × V)) (ks2 : List Str) (o6 : Option V), σ' = [some (.ref a), some (.ref st), some (.ref wd), o3, some (.ref d), some (.int sc), o6, some (.ref t), none, none, none, none, none, none, none] ∧ DS H' st 500 ∧ Ap H' st wd (.lst (ws.map V.str)) ∧ Ap H' st d (.dK kvs) ∧ (∀ p ∈ kvs, AmS st H' p.2) ∧ Ap H' st t (.dK kvs2) ∧ t ≠ d ∧ KD kvs2 ks2 ∧ ks2.Nodup ∧ (∀ s, s ∈ ks2 ↔ s ∈ ks) ∧ ks2.length ≤ 6 ∧ (∀ s ∈ ks, valV kvs2 (.inr s) = valV kvs (.inr s)), ?_, ?_⟩
    · have hkeys : kvs.map (fun kv => kV kv.1) = ks.map V.str := by
        have h9 := congrArg (List.map kV) hk
        rw [List.map_map, List.map_map] at h9
        exact h9
      refine ⟨.ref st, rfl, .ref d, rfl, d, kvs, rfl, .inl ad1.1, fun l nl => ?_⟩
      rw [hkeys]
      have D2 := D1.new (o := .lst (ks.map V.str)) nl
      have k2 := D1.newK (o := .lst (ks.map V.str)) nl
      refine ⟨st, l, 400, ks.map V.str, rfl, D2, by omega, Evl.sq_of upd_same, by rw [List.length_map]; omega, fun p ys H3 D3 k3 f3 a3 hp => ?_⟩
      rw [List.length_map] at D3
      obtain ⟨zs, rfl, hz⟩ := perm_strs hp
      have hzl := hz.length_eq
      have k13 := k2.trans k3
      have at3 := k13 _ _ at1
      have ad3 := k13 _ _ ad1
      have aw3 := k13 _ _ aw1
      have net : t ≠ p := f3 _ _ (k2 _ _ at1)
      have nwt : wd ≠ t := ne_of_none aw.1 nt
      refine ⟨p, rfl, ⟨_, Evl.sq_of a3.1⟩, ?_⟩
      refine for_it (walk_list (xs := zs.map V.str)) (fun i σ' H' => ∃ (kvs2 : List (Key × V)) (ks2 : List Str) (o6 : Option V), σ' = [some (.ref a), some (.ref st), some (.ref wd), o3, some (.ref d), some (.int sc), o6, some (.ref t), none, none, none, none, none, none, none] ∧ DS H' st (400 + ks.length) ∧ Ap H' st wd (.lst (ws.map V.str)) ∧ Ap H' st d (.dK kvs) ∧ (∀ p ∈ kvs, AmS st H' p.2) ∧ Ap H' st p (.lst (zs.map V.str)) ∧ Ap H' st t (.dK kvs2) ∧ KD kvs2 ks2 ∧ ks2.Nodup ∧ ks2.length ≤ i ∧ (∀ s, s ∈ ks2 ↔ s ∈ zs.take i) ∧ (∀ s ∈ ks2, valV kvs2 (.inr s) = valV kvs (.inr s)))
        ⟨[], [], _, rfl, D3, aw3, ad3, fun p hp => ((hA p hp).kp k1).kp k13, a3, at3, rfl, List.nodup_nil, Nat.le_refl _, fun s => by simp, fun s hs => (by cases hs)⟩ (fun i σ' H' _ h => ?_) (fun i x σ' H' H'' hi h y => ?_) (fun σ' H' h => ?_)
      · obtain ⟨_, _, _, _, _, _, _, _, h3, _⟩ := h
        exact Evl.sq_of h3.1
      · obtain ⟨kvs2, ks2, o6, rfl, Di, awi, adi, hAi, ap, ati, hk2, hnd2, hkl2, hm2, hv2⟩ := h
        obtain ⟨rfl, hx⟩ := y
        rw [List.length_map] at hi
        rw [List.getElem?_map] at hx
        obtain ⟨z, hz1, rfl⟩ := Option.map_eq_some_iff.mp hx
        have hzk : z ∈ ks := hz.mem_iff.mp (List.mem_of_getElem? hz1)
        have hv := hk.amtV hzk
        dsimp only [gName, List.set]
        refine ⟨.ref d, rfl, .str z, rfl, d, amt kvs z, rfl, by rw [← hv]; exact DGet.k (k := .inr z) adi.1, ?_⟩
        refine ⟨.ref t, rfl, .str z, rfl, t, _, rfl, DPut.k (k := .inr z) ati.1 (Evl.sz_lt (by rw [hk2.len]; omega)), ?_⟩
        refine ⟨putK kvs2 (.inr z) (amt kvs z), addK ks2 z, _, rfl, Di.put ati, Ap.put Di ati awi nwt, Ap.put Di ati adi ntd.symm, fun q hq => (hAi q hq).putD Di ati, Ap.put Di ati ap net.symm, Di.putA ati, hk2.put z _, addK_nd hnd2, Nat.le_trans addK_len (by omega), fun s => ?_, fun s hs => ?_⟩
        · rw [addK_mem, hm2, List.take_add_one, hz1, List.mem_append]
          simp
        · rw [lookK]
          by_cases hsz : s = z
          · rw [if_pos (by rw [hsz]), hsz, hv]
          · rw [if_neg (fun e => hsz (Sum.inr.inj e))]
            rcases addK_mem.mp hs with hs | hs
            · exact hv2 s hs
            · exact absurd hs hsz
      · obtain ⟨kvs2, ks2, o6, rfl, Di, awi, adi, hAi, ap, ati, hk2, hnd2, hkl2, hm2, hv2⟩ := h
        rw [List.length_map] at hkl2 hm2
        rw [List.take_length] at hm2
        have hmm : ∀ s, s ∈ ks2 ↔ s ∈ ks := fun s => (hm2 s).trans hz.mem_iff
        exact ⟨kvs2, ks2, o6, rfl, Di.mono (by omega), awi, adi, hAi, ati, ntd, hk2, hnd2, hmm, by omega, fun s hs => hv2 s ((hmm s).mpr hs)⟩
    rintro σ' H2 ⟨kvs2, ks2, o6, rfl, D2, aw2, ad2, hA2, at2, ntd, hk2, hn2, hmem2, hl2, hval⟩
    have hs12 : srt ks2 = srt ks := srt_congr ((List.perm_ext_iff_of_nodup hn2 hn).mpr hmem2)
    have hl12 : ks2.length = ks.length := by rw [← srt_len ks2, hs12, srt_len]
    have hv12 : ∀ s ∈ srt ks, amt kvs2 s = amt kvs s := fun s hs => by
      unfold Lw.amt
      rw [hval s (srt_mem.mp hs)]
    have hT2 : TxtOk ks2 := fun s hs => hT s ((hmem2 s).mp hs)
    have hA2of : ∀ {H' : Hp}, (∀ p ∈ kvs, AmX H' p.2) → ∀ p ∈ kvs2, AmX H' p.2 := fun {H'} hA p hp => by
      obtain ⟨s, hs, e⟩ := hk2.key hp
      have hsk := (hmem2 s).mp hs
      have h1 := hk2.val hn2 hp
      rw [e, hval s hsk, hk.amtV hsk] at h1
      rw [← Option.some.inj h1]
      exact hk.amX hA hsk
    -- a copy
    refine ⟨.ref t, rfl, t, kvs2, rfl, .inl at2.1, fun pd npd => ?_⟩
    have D3 := D2.new (o := .dK kvs2) npd
    have k3 := D2.newK (o := .dK kvs2) npd
    have apd3 := D2.fresh (o := .dK kvs2) npd
    have aw3 := k3 _ _ aw2
    have ad3 := k3 _ _ ad2
    have at3 := k3 _ _ at2
    have hA3 : ∀ p ∈ kvs, AmS st (upd H2 pd (.dK kvs2)) p.2 := fun p hp => (hA2 p hp).kp k3
    have ndp : d ≠ pd := ne_of_none ad2.1 npd
    clear npd k3 D1 k1 at1 aw1 ad1 D aw ad hA
    revert D3 apd3 aw3 ad3 at3 hA3
    generalize upd H2 pd (.dK kvs2) = H3
    intro D3 apd3 aw3 ad3 at3 hA3
    dsimp only [gName, List.set]
    refine ⟨by show (3 : Nat) ≤ sizeLine; decide, fun L nL => ⟨L, rfl, ⟨_, Evl.sq_of upd_same⟩, ?_⟩⟩
    have D4 := D3.new (o := .lst [.int 0, .int 1, .int 2]) nL
    have k4 := D3.newK (o := .lst [.int 0, .int 1, .int 2]) nL
    have aL4 := D3.fresh (o := .lst [.int 0, .int 1, .int 2]) nL
    refine for_it (walk_list (xs := [.int 0, .int 1, .int 2])) (fun i σ' H' => ∃ o9 o10 o11 o12, σ' = [some (.ref a), some (.ref st), some (.ref wd), o3, some (.ref d), some (.int sc), o6, some (.ref t), some (.ref pd), o9, o10, o11, o12, none, none] ∧ DS H' st (500 + 2 * i) ∧ Ap H' st wd (.lst (ws.map V.str)) ∧ Ap H' st d (.dK kvs) ∧ (∀ p ∈ kvs, AmS st H' p.2) ∧ Ap H' st t (.dK kvs2) ∧ Ap H' st pd (.dK kvs2) ∧ Ap H' st L (.lst [.int 0, .int 1, .int 2]))
      ⟨_, _, _, _, rfl, D4, k4 _ _ aw3, k4 _ _ ad3, fun p hp => (hA3 p hp).kp k4, k4 _ _ at3, k4 _ _ apd3, aL4⟩ (fun i σ' H' _ h => ?_) (fun i x σ' H' H'' hi h y => ?_) (fun σ' H' h => ?_)
    · obtain ⟨_, _, _, _, _, _, _, _, _, _, _, h3⟩ := h
      exact Evl.sq_of h3.1
    · obtain ⟨o9, o10, o11, o12, rfl, Di, awi, adi, hAi, ati, apdi, aLi⟩ := h
      obtain ⟨rfl, hx⟩ := y
      have hi3 : i < 3 := hi
      obtain ⟨plan, rfl, hplan⟩ : ∃ plan : Nat, x = .int (plan : Int) ∧ plan ≤ 2 := by
        match i, hi3, hx with
        | 0, _, rfl => exact ⟨0, rfl, by omega⟩
        | 1, _, rfl => exact ⟨1, rfl, by omega⟩
        | 2, _, rfl => exact ⟨2, rfl, by omega⟩
      dsimp only [gName, List.set]
      have hkl2 : kvs.length ≤ 6 := by rw [hk.len]; exact hlen
      refine ⟨.ref st, rfl, .ref d, rfl, d, kvs, rfl, adi.1, (kvs.length : Int), 3, rfl, rfl, st, (kvs.length : Int) + 3, 500 + 2 * i, rfl, Di, by omega, by omega, by omega, fun e H5 e0 e1 D5 k5 => ⟨e, 1, rfl, rfl, ?_⟩⟩
      dsimp only [gName, List.set]
      refine ⟨.int (e - 1), rfl, .int (e - 1), rfl, .int (e - 1), rfl, by show (5 : Nat) ≤ sizeLine; decide, fun q nq => ?_⟩
      refine ⟨.ref st, rfl, st, 5, 501 + 2 * i, rfl, (D5.new nq).mono (by omega), by omega, by omega, by omega, fun d2 H7 d20 d21 D7 k7 => ?_⟩
      have kq := D5.newK (o := .lst [.int (e - 1), .int (e - 1), .int (e - 1), .bl true, .non]) nq
      have aq7 := k7 _ _ (D5.fresh (o := .lst [.int (e - 1), .int (e - 1), .int (e - 1), .bl true, .non]) nq)
      have kk := k5.trans (kq.trans k7)
      obtain ⟨v, hv, hm⟩ := atI_some (xs := [V.int (e - 1), .int (e - 1), .int (e - 1), .bl true, .non]) d20 d21
      refine ⟨q, _, d2, v, rfl, rfl, Evl.sq_of aq7.1, hv, ?_⟩
      have hvX : AmX H7 v := by
        simp only [List.mem_cons, List.not_mem_nil, or_false] at hm
        rcases hm with rfl | rfl | rfl | rfl | rfl
        · exact .inl ⟨_, rfl⟩
        · exact .inl ⟨_, rfl⟩
        · exact .inl ⟨_, rfl⟩
        · exact .inr (.inl ⟨_, rfl⟩)
        · exact .inr (.inr (.inl rfl))
      have aw7 := kk _ _ awi
      have ad7 := kk _ _ adi
      have at7 := kk _ _ ati
      have apd7 := kk _ _ apdi
      have aL7 := kk _ _ aLi
      have hA7 : ∀ p ∈ kvs, AmS st H7 p.2 := fun p hp => (hAi p hp).kp kk
      dsimp only [gName, List.set]
      refine ⟨.int (plan : Int), rfl, .ref d, rfl, v, rfl, plan, d, v, kvs, ks, rfl, hplan, ad7.1, hk, hn, hT, by omega, fun p hp => (hA7 p hp).x, hvX, fun dh H8 e8 ndh hdue => ?_⟩
      have k8 := D7.exK e8
      have D8 := D7.ex e8
      have ad8 := k8 _ _ ad7
      have apd8 := k8 _ _ apd7
      have at8 := k8 _ _ at7
      have hA8 : ∀ p ∈ kvs, AmX H8 p.2 := fun p hp => ((hA7 p hp).kp k8).x
      have hv8 := hvX.ex e8
      have hcU : AmX H8 (capP plan ks.length v) := by
        unfold capP
        split
        · exact .inl ⟨_, rfl⟩
        · split
          · exact .inl ⟨_, rfl⟩
          · exact hv8
      dsimp only [gName, List.set]
      have dd2 := SameD.two (SameD.self hk2 hn2) (SameD.self hk2 hn2) hk2 (hk2.same (hA2of hA8))
      refine Evl.s_when (b := false || (false || false)) (Evl.et_or (Evl.et_test fun H9 e9 Q q => ⟨.int (plan : Int), rfl, .ref pd, rfl, v, rfl, plan, pd, v, kvs2, ks2, rfl, hplan, e9 _ _ apd8.1, hk2, hn2, hT2, by omega, fun p hp => (hA2of hA8 p hp).ex e9, hv8.ex e9, fun p H10 e10 np hm => ⟨.ref dh, rfl, ToldAt.ne (by rw [hl12] at hm; exact hm.same hs12 hv12) (hdue.ex (e9.trans e10)) hk hT (fun p hp => (hA8 p hp).ex (e9.trans e10)) (hcU.ex (e9.trans e10)) (q H10 e10)⟩⟩) fun _ => Evl.et_or (Evl.et_test (Evl.ev_op (Evl.ev_var rfl) (Evl.ev_var rfl) fun H9 e9 Q q => ⟨⟨pd, t, kvs2, kvs2, rfl, rfl, e9 _ _ apd8.1, e9 _ _ at8.1, rfl, dd2.2⟩, fun H' e' => q H' e'⟩)) fun _ => Evl.et_test fun H9 e9 Q q => ⟨.int (plan : Int), rfl, .ref d, rfl, v, rfl, plan, d, v, kvs, ks, rfl, hplan, e9 _ _ ad8.1, hk, hn, hT, by omega, fun p hp => (hA8 p hp).ex e9, hv8.ex e9, fun p H10 e10 np hm => ⟨.ref dh, rfl, ToldAt.ne hm (hdue.ex (e9.trans e10)) hk hT (fun p hp => (hA8 p hp).ex (e9.trans e10)) (hcU.ex (e9.trans e10)) (q H10 e10)⟩⟩) (fun hb => nomatch hb) (fun _ H9 e9 => ?_)
      have k9 := k8.trans (D8.exK e9)
      exact ⟨_, _, _, _, rfl, (D8.ex e9).mono (by omega), k9 _ _ aw7, k9 _ _ ad7, fun p hp => (hA7 p hp).kp k9, k9 _ _ at7, k9 _ _ apd7, k9 _ _ aL7⟩
    · obtain ⟨o9, o10, o11, o12, rfl, D5, aw5, ad5, hA5, at5, apd5, _⟩ := h
      have hX5 : ∀ p ∈ kvs, AmX H' p.2 := fun p hp => (hA5 p hp).x
      have hwT := wa.ok (by decide)
      have gs : ∀ {zs : List Str}, TxtOk zs → SeqAt.shaped (.list (zs.map PyData.str)) = true := fun h => (good_strs fun z hz => (h z hz).2).shaped (by decide)
      have k0 : capP 0 ks.length (.int 0) = .int (ks.length : Int) := rfl
      have due0 : ∀ {σ : L2.St} {H3 : Hp}, σ[4]? = some (some (.ref d)) → Evl.Ex H' H3 → ∀ Q : VK, (∀ p H4, Evl.Ex H3 H4 → H3 p = none → ToldAt p kvs ks (.int (ks.length : Int)) H4 → Q (.ref p) H4) → tCall sp_tmade [] E0 (tCons (tC (.int 0)) (tCons (tVar 4) (tCons (tC (.int 0)) tNil))) σ H3 Q := fun {σ H3} h4 e3 Q q =>
        ⟨.ref d, h4, 0, d, .int 0, kvs, ks, rfl, by omega, e3 _ _ ad5.1, hk, hn, hT, by omega, fun p hp => (hX5 p hp).ex e3, .inl ⟨_, rfl⟩, q⟩
      dsimp only
      refine Evl.q_when (b := decide (ws = []) || !decide (V.str (tagOf (sres kvs ks (.int (ks.length : Int)))) = V.str "table")) (Evl.et_or (Evl.et_test fun H3 e3 Q q => ⟨.ref wd, rfl, Nat.zero_le _, fun e ne => ⟨_, _, dp_strs (Evl.sq_of ((Evl.Ex.new ne) _ _ (e3 _ _ aw5.1))), dp_empty (Evl.sq_of upd_same), gs hwT, sh_empty, by rw [eqv_nil_map]; exact q _ (Evl.Ex.new ne)⟩⟩) fun _ => Evl.et_test (Evl.ev_op (x := .str (tagOf (sres kvs ks (.int (ks.length : Int))))) (fun H3 e3 Q q => due0 rfl e3 _ fun p H4 e4 np hm => by
          obtain ⟨r, hr9⟩ := hm.head
          exact ⟨p, _, 0, _, rfl, rfl, Evl.sq_of hr9, atI_nat (j := 0) rfl, q H4 e4⟩) Evl.ev_c (Evl.rv_ne rfl))) (fun hb H3 e3 => Evl.s_ret Evl.ev_c fun H5 _ => hQ H5) (fun hb H3 e3 => ?_)
      rw [Bool.or_eq_false_iff] at hb
      have hok : sres kvs ks (.int (ks.length : Int)) = .ok := tag_ok (V.str.inj (by simpa using hb.2))
      obtain ⟨hgk, hwk, hone⟩ := sres_one hok
      have hok2 : sres kvs2 ks2 (.int (kvs2.length : Int)) = .ok := by
        rw [hk2.len, hl12]
        exact (sres_same hs12 hv12).1.trans hok
      have apd6 := e3 _ _ apd5.1
      have ad6 := e3 _ _ ad5.1
      have hX6 : ∀ p ∈ kvs, AmX H3 p.2 := fun p hp => (hX5 p hp).ex e3
      refine ⟨rfl, .ref pd, rfl, pd, kvs2, rfl, apd6, pd, .int (kvs2.length : Int), kvs2, ks2, rfl, apd6, hk2, hT2, by omega, hA2of hX6, .inl ⟨_, rfl⟩, ?_⟩
      rw [hok2]
      intro tb H6 e6 ht
      have htA := ht.at
      have apd7 := e6 _ _ apd6
      have ad7 := e6 _ _ ad6
      have hX7 : ∀ p ∈ kvs, AmX H6 p.2 := fun p hp => (hX6 p hp).ex e6
      clear ht
      dsimp only [gName, List.set]
      refine ⟨.ref pd, rfl, .inr (.inr (.inl ⟨rfl, .inl ⟨_, apd7⟩⟩)), pd, kvs2, rfl, rfl, apd7, ?_⟩
      have ht8 : TabAt c.CT tb (srt ks2) (rowS kvs2 (srt ks2) (toI (.int (kvs2.length : Int))).toNat) (upd H6 pd (.dK [])) := TabAt.put apd7 htA
      have ad8 : (upd H6 pd (.dK [])) d = some (.dK kvs) := (upd_ne ndp).trans ad7
      have hX8 : ∀ p ∈ kvs, AmX (upd H6 pd (.dK [])) p.2 := fun p hp => by
        rcases hX7 p hp with a | a | a | a | ⟨t, h1, h2⟩
        · exact .inl a
        · exact .inr (.inl a)
        · exact .inr (.inr (.inl a))
        · exact .inr (.inr (.inr (.inl a)))
        · refine .inr (.inr (.inr (.inr ⟨t, h1, (upd_ne fun e => ?_).trans h2⟩)))
          rw [e, apd7] at h2
          cases h2
      revert ht8 ad8 hX8
      generalize upd H6 pd (.dK []) = H8
      intro ht8 ad8 hX8
      dsimp only
      refine ⟨rfl, .ref d, rfl, d, .int 1, kvs, ks, rfl, ad8, hk, hT, by omega, hX8, .inl ⟨_, rfl⟩, ?_⟩
      rw [hone]
      intro sm H9 e9 hsm
      have hsA := hsm.at
      clear hsm
      dsimp only [gName, List.set]
      have ad9 := e9 _ _ ad8
      have hX9 : ∀ p ∈ kvs, AmX H9 p.2 := fun p hp => (hX8 p hp).ex e9
      have ht9 := ht8.ex e9
      have hT3 : TxtOk (srt ks) := srt_ok hT
      have hlk : kvs2.length = ks.length := by rw [hk2.len, hl12]
      have hrow : rowS kvs2 (srt ks2) (toI (.int (kvs2.length : Int))).toNat = rowS kvs (srt ks) (toI (.int (ks.length : Int))).toNat := by
        rw [hlk]
        exact (sres_same hs12 hv12).2 hok
      have selfE : ∀ (xs : List Str) (zs : List Int), PyData.eqv (.list [.str "table", .tuple (xs.map PyData.str), .tuple (zs.map PyData.int)]) (.list [.str "table", .tuple (xs.map PyData.str), .tuple (zs.map PyData.int)]) = true := fun xs zs => by
        have hb := eqv_strsT xs xs
        have hc := eqv_intsT zs zs
        rw [decide_eq_true rfl] at hb hc
        simp only [PyData.eqv, PyData.eqvAll] at hb hc ⊢
        simp [hb, hc]
      have goodL : SeqAt.shaped (.list [.str "table", .tuple ((srt ks).map PyData.str), .tuple ((rowS kvs (srt ks) (toI (.int (ks.length : Int))).toNat).map PyData.int)]) = true := GoodD.shaped (n := 9) (good_list (n := 8) fun x hx => by
        simp only [List.mem_cons, List.not_mem_nil, or_false] at hx
        rcases hx with rfl | rfl | rfl
        · exact (good_str (n := 1) (Asc.ok (m := 7) (ws := ["table"]) (fun z hz => by rw [List.mem_singleton.mp hz]; exact ⟨by decide +kernel, by decide +kernel⟩) (by decide) "table" List.mem_cons_self).2).mono (by decide)
        · exact (good_strsT fun z hz => (hT3 z hz).2).mono (by decide)
        · exact (good_intsT _).mono (by decide)) (by decide)
      refine Evl.s_ret (te := tAndV _ _) (D := { nx := fun _ H' => Q .non H', rt := Q }) (v := .bl true) (Evl.ev_is (Evl.ev_andV (a := true) (b := true) (fun H10 e10 Q q => ?_) fun _ => fun H10 e10 Q q => ?_) rfl) fun H10 _ => hQ H10
      · refine ⟨.ref tb, rfl, tb, srt ks2, _, rfl, ht9.ex e10, fun p g n H11 e11 np hp hg hn9 => ⟨.ref d, rfl, 0, d, .int 0, kvs, ks, rfl, by omega, (e10.trans e11) _ _ ad9, hk, hn, hT, by omega, fun p hp => (hX9 p hp).ex (e10.trans e11), .inl ⟨_, rfl⟩, fun p2 H12 e12 np2 hm => ?_⟩⟩
        rw [k0] at hm
        unfold ToldAt at hm
        rw [hok] at hm
        obtain ⟨g2, n2, a1, a2, a3⟩ := hm
        rw [hs12] at hg
        rw [hrow] at hn9
        refine ⟨_, _, .lst (Evl.sq_of (e12 _ _ hp)) (.cons (.str _) (.cons (dp_strsT (Evl.st_of (e12 _ _ hg))) (.cons (dp_intsT (Evl.st_of (e12 _ _ hn9))) .nil))), .lst (Evl.sq_of a1) (.cons (.str _) (.cons (dp_strsT (Evl.st_of a2)) (.cons (dp_intsT (Evl.st_of a3)) .nil))), goodL, goodL, ?_⟩
        rw [selfE]
        exact q _ (e11.trans e12)
      · refine ⟨.ref sm, rfl, rfl, .ref d, rfl, d, rfl, d, .int 1, kvs, ks, rfl, e10 _ _ ad9, hk, hT, by omega, fun p hp => (hX9 p hp).ex e10, .inl ⟨_, rfl⟩, ?_⟩
        rw [hone]
        intro on H11 e11 hon
        have hsB := (hsA.ex e10).ex e11
        have hoA := hon.at
        obtain ⟨dx, g, d3, n, h1, _⟩ := id hsB
        obtain ⟨dy, g', d4, n', h1', _⟩ := id hoA
        refine ⟨sm, on, dx, dy, _, _, rfl, rfl, h1, h1', sm, on, srt ks, srt ks, _, _, rfl, hsB, hoA, hT3, hT3, fun H12 e12 => ⟨⟨_, rfl⟩, ?_⟩⟩
        rw [decide_eq_true rfl, decide_eq_true rfl]
        exact q _ (e11.trans e12)
end
end Lw

namespace Lw
open PySem PySem.Spec PyProof.Rows L2
section
variable {K : PySem.W.Frag} {f : Addr} {fd : FuncData}
theorem binds_whole3 (F : FunD K "is_whole" "is_whole" (defArgs s_is_whole) (defBody s_is_whole) (defScope s_is_whole) [.non] [] f fd) : Binds K fd ["value", "least", "most"] [] := by
  obtain ⟨ds, h1, h2⟩ := F.binds1 (ps := ["value", "least", "most"]) 3 1 (by simp) rfl fun T kV doc pm an cdv ct us its h1 h2 => match us, its, h1, h2 with
    | [_, _, _], [_], _, _ => ⟨_, rfl, rfl⟩
  cases h1
  exact h2
/-- a def with one default -/
theorem fund_dfl {x qual : Str} {st : Stmt} {oc : Value} {od an : Option Addr} {osl : Array (Option Value)} {kV doc pm cdv ct : Value} {T : Addr} {ocT : Value} {odT : Option Addr} {slT : Array (Option Value)} {n : Nat}
    (l : K.lookup f = some ⟨oc, od, .func (PySem.W.fnOf x qual (defArgs st) (defBody st) (defScope st) (.ref T) kV doc pm an cdv ct), osl⟩) (lT : K.lookup T = some ⟨ocT, odT, .seq #[Value.none] n, slT⟩) (c : PySem.W.codeIn K cdv qual = true) (k : PySem.W.keepIn K (.ref f) = true) :
    FunD K x qual (defArgs st) (defBody st) (defScope st) [.non] [] f (PySem.W.fnOf x qual (defArgs st) (defBody st) (defScope st) (.ref T) kV doc pm an cdv ct) :=
  ⟨⟨oc, od, .ref T, kV, doc, pm, an, cdv, ct, osl, rfl, l, c, .inr ⟨by simp, T, _, [Value.none], n, rfl, lT, rfl, .cons rfl .nil⟩, .inl rfl⟩, k⟩
end
end Lw

namespace Lw
open PySem PySem.Spec PyProof.Rows L2
theorem all_mk {l : PySem.W.OpenLaw} {w : World} {K : PySem.W.Frag} {h : Heap} {mg : Str → Option Value} {fa : Addr} (X : K.In h) (G : h.Ns mainGlobals mg) (hfa : mg "law" = some (.ref fa))
    {CBadName IBadName : Addr} {fdBadName : FuncData}
    {CDuplicateName IDuplicateName : Addr} {fdDuplicateName : FuncData}
    {CBadCount IBadCount : Addr} {fdBadCount : FuncData}
    {CBadWorth IBadWorth : Addr} {fdBadWorth : FuncData}
    {CNotRising INotRising : Addr} {fdNotRising : FuncData}
    {CT fi : Addr}
    {odI anI : Option Addr} {slI : Array (Option Value)} {ocI kVI dcI pmI cdI ctI : Value}
    {fm_goods pp_goods : Addr} {rest_goods : List Value}
    {odMgoods anMgoods : Option Addr} {slMgoods : Array (Option Value)} {ocMgoods kVMgoods dcMgoods pmMgoods cdMgoods ctMgoods : Value}
    {fm_numbers pp_numbers : Addr} {rest_numbers : List Value}
    {odMnumbers anMnumbers : Option Addr} {slMnumbers : Array (Option Value)} {ocMnumbers kVMnumbers dcMnumbers pmMnumbers cdMnumbers ctMnumbers : Value}
    {fm_eq : Addr}
    {odMeq anMeq : Option Addr} {slMeq : Array (Option Value)} {ocMeq kVMeq dcMeq pmMeq cdMeq ctMeq : Value}
    {fm_plain pp_plain : Addr} {rest_plain : List Value}
    {odMplain anMplain : Option Addr} {slMplain : Array (Option Value)} {ocMplain kVMplain dcMplain pmMplain cdMplain ctMplain : Value}
    {fm_one_of pp_one_of : Addr} {rest_one_of : List Value}
    {odMone_of anMone_of : Option Addr} {slMone_of : Array (Option Value)} {ocMone_of kVMone_of dcMone_of pmMone_of cdMone_of ctMone_of : Value}
    {fm_some_of pp_some_of : Addr} {rest_some_of : List Value}
    {odMsome_of anMsome_of : Option Addr} {slMsome_of : Array (Option Value)} {ocMsome_of kVMsome_of dcMsome_of pmMsome_of cdMsome_of ctMsome_of : Value}
    {fw TT : Addr} {ocT : Value} {odT : Option Addr} {slT : Array (Option Value)} {nT : Nat}
    {odW anW : Option Addr} {slW : Array (Option Value)} {ocW kVW dcW pmW cdW ctW : Value}
    {f0 : Addr}
    {od0 an0 : Option Addr} {sl0 : Array (Option Value)} {oc0 kV0 dc0 pm0 cd0 ct0 : Value}
    {f1 : Addr}
    {od1 an1 : Option Addr} {sl1 : Array (Option Value)} {oc1 kV1 dc1 pm1 cd1 ct1 : Value}
    {f2 : Addr}
    {od2 an2 : Option Addr} {sl2 : Array (Option Value)} {oc2 kV2 dc2 pm2 cd2 ct2 : Value}
    {f3 : Addr}
    {od3 an3 : Option Addr} {sl3 : Array (Option Value)} {oc3 kV3 dc3 pm3 cd3 ct3 : Value}
    {f4 : Addr}
    {od4 an4 : Option Addr} {sl4 : Array (Option Value)} {oc4 kV4 dc4 pm4 cd4 ct4 : Value}
    {f5 : Addr}
    {od5 an5 : Option Addr} {sl5 : Array (Option Value)} {oc5 kV5 dc5 pm5 cd5 ct5 : Value}
    {f6 : Addr}
    {od6 an6 : Option Addr} {sl6 : Array (Option Value)} {oc6 kV6 dc6 pm6 cd6 ct6 : Value}
    {f7 : Addr}
    {od7 an7 : Option Addr} {sl7 : Array (Option Value)} {oc7 kV7 dc7 pm7 cd7 ct7 : Value}
    {f8 : Addr}
    {od8 an8 : Option Addr} {sl8 : Array (Option Value)} {oc8 kV8 dc8 pm8 cd8 ct8 : Value}
    {f9 : Addr}
    {od9 an9 : Option Addr} {sl9 : Array (Option Value)} {oc9 kV9 dc9 pm9 cd9 ct9 : Value}
    {f10 : Addr}
    {od10 an10 : Option Addr} {sl10 : Array (Option Value)} {oc10 kV10 dc10 pm10 cd10 ct10 : Value}
    {f11 : Addr}
    {od11 an11 : Option Addr} {sl11 : Array (Option Value)} {oc11 kV11 dc11 pm11 cd11 ct11 : Value}
    {f12 : Addr}
    {od12 an12 : Option Addr} {sl12 : Array (Option Value)} {oc12 kV12 dc12 pm12 cd12 ct12 : Value}
    {f13 : Addr}
    {od13 an13 : Option Addr} {sl13 : Array (Option Value)} {oc13 kV13 dc13 pm13 cd13 ct13 : Value}
    {f14 : Addr}
    {od14 an14 : Option Addr} {sl14 : Array (Option Value)} {oc14 kV14 dc14 pm14 cd14 ct14 : Value}
    {f15 : Addr}
    {od15 an15 : Option Addr} {sl15 : Array (Option Value)} {oc15 kV15 dc15 pm15 cd15 ct15 : Value}
    {f16 : Addr}
    {od16 an16 : Option Addr} {sl16 : Array (Option Value)} {oc16 kV16 dc16 pm16 cd16 ct16 : Value}
    {f17 : Addr}
    {od17 an17 : Option Addr} {sl17 : Array (Option Value)} {oc17 kV17 dc17 pm17 cd17 ct17 : Value}
    {f18 : Addr}
    {od18 an18 : Option Addr} {sl18 : Array (Option Value)} {oc18 kV18 dc18 pm18 cd18 ct18 : Value}
    {f19 : Addr}
    {od19 an19 : Option Addr} {sl19 : Array (Option Value)} {oc19 kV19 dc19 pm19 cd19 ct19 : Value}
    {f20 : Addr}
    {od20 an20 : Option Addr} {sl20 : Array (Option Value)} {oc20 kV20 dc20 pm20 cd20 ct20 : Value}
    {f21 : Addr}
    {od21 an21 : Option Addr} {sl21 : Array (Option Value)} {oc21 kV21 dc21 pm21 cd21 ct21 : Value}
    {u_LETTERS : Value}
    {u_DIGITS : Value}
    {u_MOST_SIGNS : Value}
    {u_MOST_GOODS : Value}
    {u_MOST_WORTH : Value}
    (E_BadName : ∀ base : Heap, ErC l.prog w K mg base "BadName" "name" CBadName IBadName fdBadName)
    (E_DuplicateName : ∀ base : Heap, ErC l.prog w K mg base "DuplicateName" "name" CDuplicateName IDuplicateName fdDuplicateName)
    (E_BadCount : ∀ base : Heap, ErC l.prog w K mg base "BadCount" "count" CBadCount IBadCount fdBadCount)
    (E_BadWorth : ∀ base : Heap, ErC l.prog w K mg base "BadWorth" "worth" CBadWorth IBadWorth fdBadWorth)
    (E_NotRising : ∀ base : Heap, ErC2 l.prog w K mg base "NotRising" "value" "name" CNotRising INotRising fdNotRising)
    (w_bb : PySem.W.exmOne K (.ref CBadCount) (.ref CBadCount) = some true)
    (w_nb : PySem.W.exmOne K (.ref CBadName) (.ref CBadCount) = some false)
    (w_nn : PySem.W.exmOne K (.ref CBadName) (.ref CBadName) = some true)
    (w_wb : PySem.W.exmOne K (.ref CBadWorth) (.ref CBadCount) = some false)
    (w_wn : PySem.W.exmOne K (.ref CBadWorth) (.ref CBadName) = some false)
    (w_ww : PySem.W.exmOne K (.ref CBadWorth) (.ref CBadWorth) = some true)
    (aCP : PySem.W.nsIn K mainGlobals "Table" = some (some (.ref CT)))
    (pg_ : PySem.W.plainGet K CT Str.empty = true)
    (hd_ : PySem.W.hasDictIn K CT = true)
    (po_ : PySem.W.plainOver K CT = true)
    (sa_ : PySem.W.findIn K (.ref CT) "__setattr__" = some (some (.builtin "object.__setattr__")))
    (mk_ : PySem.W.makesIn K CT = true)
    (kc_ : PySem.W.keepIn K (.ref CT) = true)
    (ai_ : PySem.W.findIn K (.ref CT) "__init__" = some (some (.ref fi)))
    (ii_ : PySem.W.isFn K (.ref fi) = true)
    (lI : K.lookup fi = some ⟨ocI, odI, .func (PySem.W.fnOf "__init__" "Table.__init__" (defArgs s_Table_init) (defBody s_Table_init) (defScope s_Table_init) .none kVI dcI pmI anI cdI ctI), slI⟩)
    (cI : PySem.W.codeIn K cdI "Table.__init__" = true)
    (kI : PySem.W.keepIn K (.ref fi) = true)
    (nG : PySem.W.findIn K (.ref CT) "_goods" = some none)
    (nW : PySem.W.findIn K (.ref CT) "_worths" = some none)
    (nN : PySem.W.findIn K (.ref CT) "_numbers" = some none)
    (obi_ : PySem.W.mroIn K CT (.type "object") = some true)
    (cla_ : PySem.W.findIn K (.ref CT) "__class__" = some (some (.builtin "object.__class__")))
    (clb_ : PySem.W.specialIn K (.builtin "object.__class__") "__get__" = some (some (.builtin "getset_descriptor.__get__")))
    (clc_ : PySem.W.takesIn K (.builtin "object.__class__") = some true)
    (kit_ : PySem.W.kitOne K (.ref CT) (.ref CT) = some true)
    (rd_ : PySem.W.readsIn K CT (.type "type") = true)
    (rg_ : PySem.W.specialIn K (.ref CT) "__getattribute__" = some (some (.builtin "type.__getattribute__")))
    (pa_goods : PySem.W.findIn K (.ref CT) "goods" = some (some (.ref pp_goods)))
    (pe_goods : PySem.W.specialIn K (.ref pp_goods) "__get__" = some (some (.builtin "property.__get__")))
    (pt_goods : PySem.W.takesIn K (.ref pp_goods) = some true)
    (pr_goods : PySem.W.recIn K pp_goods "property" = some (.ref fm_goods :: rest_goods))
    (lMgoods : K.lookup fm_goods = some ⟨ocMgoods, odMgoods, .func (PySem.W.fnOf "goods" "Table.goods" (defArgs s_Table_goods) (defBody s_Table_goods) (defScope s_Table_goods) .none kVMgoods dcMgoods pmMgoods anMgoods cdMgoods ctMgoods), slMgoods⟩)
    (cMgoods : PySem.W.codeIn K cdMgoods "Table.goods" = true)
    (kMgoods : PySem.W.keepIn K (.ref fm_goods) = true)
    (pa_numbers : PySem.W.findIn K (.ref CT) "numbers" = some (some (.ref pp_numbers)))
    (pe_numbers : PySem.W.specialIn K (.ref pp_numbers) "__get__" = some (some (.builtin "property.__get__")))
    (pt_numbers : PySem.W.takesIn K (.ref pp_numbers) = some true)
    (pr_numbers : PySem.W.recIn K pp_numbers "property" = some (.ref fm_numbers :: rest_numbers))
    (lMnumbers : K.lookup fm_numbers = some ⟨ocMnumbers, odMnumbers, .func (PySem.W.fnOf "numbers" "Table.numbers" (defArgs s_Table_numbers) (defBody s_Table_numbers) (defScope s_Table_numbers) .none kVMnumbers dcMnumbers pmMnumbers anMnumbers cdMnumbers ctMnumbers), slMnumbers⟩)
    (cMnumbers : PySem.W.codeIn K cdMnumbers "Table.numbers" = true)
    (kMnumbers : PySem.W.keepIn K (.ref fm_numbers) = true)
    (ma_eq : PySem.W.findIn K (.ref CT) "__eq__" = some (some (.ref fm_eq)))
    (mi_eq : PySem.W.isFn K (.ref fm_eq) = true)
    (lMeq : K.lookup fm_eq = some ⟨ocMeq, odMeq, .func (PySem.W.fnOf "__eq__" "Table.__eq__" (defArgs s_Table_eq) (defBody s_Table_eq) (defScope s_Table_eq) .none kVMeq dcMeq pmMeq anMeq cdMeq ctMeq), slMeq⟩)
    (cMeq : PySem.W.codeIn K cdMeq "Table.__eq__" = true)
    (kMeq : PySem.W.keepIn K (.ref fm_eq) = true)
    (pa_plain : PySem.W.findIn K (.ref CT) "plain" = some (some (.ref pp_plain)))
    (pc_plain : PySem.W.findCls K (.ref CT) (.type "type") "plain" = some (PySem.W.CFound.get (.builtin "classmethod.__get__") (.ref pp_plain) .none (.ref CT)))
    (pr_plain : PySem.W.recIn K pp_plain "classmethod" = some (.ref fm_plain :: rest_plain))
    (pf_plain : PySem.W.fnIn K fm_plain = true)
    (lMplain : K.lookup fm_plain = some ⟨ocMplain, odMplain, .func (PySem.W.fnOf "plain" "Table.plain" (defArgs s_Table_plain) (defBody s_Table_plain) (defScope s_Table_plain) .none kVMplain dcMplain pmMplain anMplain cdMplain ctMplain), slMplain⟩)
    (cMplain : PySem.W.codeIn K cdMplain "Table.plain" = true)
    (kMplain : PySem.W.keepIn K (.ref fm_plain) = true)
    (pa_one_of : PySem.W.findIn K (.ref CT) "one_of" = some (some (.ref pp_one_of)))
    (pc_one_of : PySem.W.findCls K (.ref CT) (.type "type") "one_of" = some (PySem.W.CFound.get (.builtin "classmethod.__get__") (.ref pp_one_of) .none (.ref CT)))
    (pr_one_of : PySem.W.recIn K pp_one_of "classmethod" = some (.ref fm_one_of :: rest_one_of))
    (pf_one_of : PySem.W.fnIn K fm_one_of = true)
    (lMone_of : K.lookup fm_one_of = some ⟨ocMone_of, odMone_of, .func (PySem.W.fnOf "one_of" "Table.one_of" (defArgs s_Table_one_of) (defBody s_Table_one_of) (defScope s_Table_one_of) .none kVMone_of dcMone_of pmMone_of anMone_of cdMone_of ctMone_of), slMone_of⟩)
    (cMone_of : PySem.W.codeIn K cdMone_of "Table.one_of" = true)
    (kMone_of : PySem.W.keepIn K (.ref fm_one_of) = true)
    (pa_some_of : PySem.W.findIn K (.ref CT) "some_of" = some (some (.ref pp_some_of)))
    (pc_some_of : PySem.W.findCls K (.ref CT) (.type "type") "some_of" = some (PySem.W.CFound.get (.builtin "classmethod.__get__") (.ref pp_some_of) .none (.ref CT)))
    (pr_some_of : PySem.W.recIn K pp_some_of "classmethod" = some (.ref fm_some_of :: rest_some_of))
    (pf_some_of : PySem.W.fnIn K fm_some_of = true)
    (lMsome_of : K.lookup fm_some_of = some ⟨ocMsome_of, odMsome_of, .func (PySem.W.fnOf "some_of" "Table.some_of" (defArgs s_Table_some_of) (defBody s_Table_some_of) (defScope s_Table_some_of) .none kVMsome_of dcMsome_of pmMsome_of anMsome_of cdMsome_of ctMsome_of), slMsome_of⟩)
    (cMsome_of : PySem.W.codeIn K cdMsome_of "Table.some_of" = true)
    (kMsome_of : PySem.W.keepIn K (.ref fm_some_of) = true)
    (aW : PySem.W.nsIn K mainGlobals "is_whole" = some (some (.ref fw)))
    (lW : K.lookup fw = some ⟨ocW, odW, .func (PySem.W.fnOf "is_whole" "is_whole" (defArgs s_is_whole) (defBody s_is_whole) (defScope s_is_whole) (.ref TT) kVW dcW pmW anW cdW ctW), slW⟩)
    (cW : PySem.W.codeIn K cdW "is_whole" = true)
    (kW : PySem.W.keepIn K (.ref fw) = true)
    (tW : K.lookup TT = some ⟨ocT, odT, .seq #[Value.none] nT, slT⟩)
    (a0 : PySem.W.nsIn K mainGlobals "valid_name" = some (some (.ref f0)))
    (l0 : K.lookup f0 = some ⟨oc0, od0, .func (PySem.W.fnOf "valid_name" "valid_name" (defArgs s_valid_name) (defBody s_valid_name) (defScope s_valid_name) .none kV0 dc0 pm0 an0 cd0 ct0), sl0⟩)
    (c0 : PySem.W.codeIn K cd0 "valid_name" = true)
    (k0 : PySem.W.keepIn K (.ref f0) = true)
    (a1 : PySem.W.nsIn K mainGlobals "goods_of" = some (some (.ref f1)))
    (l1 : K.lookup f1 = some ⟨oc1, od1, .func (PySem.W.fnOf "goods_of" "goods_of" (defArgs s_goods_of) (defBody s_goods_of) (defScope s_goods_of) .none kV1 dc1 pm1 an1 cd1 ct1), sl1⟩)
    (c1 : PySem.W.codeIn K cd1 "goods_of" = true)
    (k1 : PySem.W.keepIn K (.ref f1) = true)
    (a2 : PySem.W.nsIn K mainGlobals "all_bundles" = some (some (.ref f2)))
    (l2 : K.lookup f2 = some ⟨oc2, od2, .func (PySem.W.fnOf "all_bundles" "all_bundles" (defArgs s_all_bundles) (defBody s_all_bundles) (defScope s_all_bundles) .none kV2 dc2 pm2 an2 cd2 ct2), sl2⟩)
    (c2 : PySem.W.codeIn K cd2 "all_bundles" = true)
    (k2 : PySem.W.keepIn K (.ref f2) = true)
    (a3 : PySem.W.nsIn K mainGlobals "union" = some (some (.ref f3)))
    (l3 : K.lookup f3 = some ⟨oc3, od3, .func (PySem.W.fnOf "union" "union" (defArgs s_union) (defBody s_union) (defScope s_union) .none kV3 dc3 pm3 an3 cd3 ct3), sl3⟩)
    (c3 : PySem.W.codeIn K cd3 "union" = true)
    (k3 : PySem.W.keepIn K (.ref f3) = true)
    (a4 : PySem.W.nsIn K mainGlobals "rest" = some (some (.ref f4)))
    (l4 : K.lookup f4 = some ⟨oc4, od4, .func (PySem.W.fnOf "rest" "rest" (defArgs s_rest) (defBody s_rest) (defScope s_rest) .none kV4 dc4 pm4 an4 cd4 ct4), sl4⟩)
    (c4 : PySem.W.codeIn K cd4 "rest" = true)
    (k4 : PySem.W.keepIn K (.ref f4) = true)
    (a5 : PySem.W.nsIn K mainGlobals "filled_bundles" = some (some (.ref f5)))
    (l5 : K.lookup f5 = some ⟨oc5, od5, .func (PySem.W.fnOf "filled_bundles" "filled_bundles" (defArgs s_filled_bundles) (defBody s_filled_bundles) (defScope s_filled_bundles) .none kV5 dc5 pm5 an5 cd5 ct5), sl5⟩)
    (c5 : PySem.W.codeIn K cd5 "filled_bundles" = true)
    (k5 : PySem.W.keepIn K (.ref f5) = true)
    (a6 : PySem.W.nsIn K mainGlobals "worths_of" = some (some (.ref f6)))
    (l6 : K.lookup f6 = some ⟨oc6, od6, .func (PySem.W.fnOf "worths_of" "worths_of" (defArgs s_worths_of) (defBody s_worths_of) (defScope s_worths_of) .none kV6 dc6 pm6 an6 cd6 ct6), sl6⟩)
    (c6 : PySem.W.codeIn K cd6 "worths_of" = true)
    (k6 : PySem.W.keepIn K (.ref f6) = true)
    (a7 : PySem.W.nsIn K mainGlobals "is_worth" = some (some (.ref f7)))
    (l7 : K.lookup f7 = some ⟨oc7, od7, .func (PySem.W.fnOf "is_worth" "is_worth" (defArgs s_is_worth) (defBody s_is_worth) (defScope s_is_worth) .none kV7 dc7 pm7 an7 cd7 ct7), sl7⟩)
    (c7 : PySem.W.codeIn K cd7 "is_worth" = true)
    (k7 : PySem.W.keepIn K (.ref f7) = true)
    (a8 : PySem.W.nsIn K mainGlobals "check_amounts" = some (some (.ref f8)))
    (l8 : K.lookup f8 = some ⟨oc8, od8, .func (PySem.W.fnOf "check_amounts" "check_amounts" (defArgs s_check_amounts) (defBody s_check_amounts) (defScope s_check_amounts) .none kV8 dc8 pm8 an8 cd8 ct8), sl8⟩)
    (c8 : PySem.W.codeIn K cd8 "check_amounts" = true)
    (k8 : PySem.W.keepIn K (.ref f8) = true)
    (a9 : PySem.W.nsIn K mainGlobals "greatest_sum" = some (some (.ref f9)))
    (l9 : K.lookup f9 = some ⟨oc9, od9, .func (PySem.W.fnOf "greatest_sum" "greatest_sum" (defArgs s_greatest_sum) (defBody s_greatest_sum) (defScope s_greatest_sum) .none kV9 dc9 pm9 an9 cd9 ct9), sl9⟩)
    (c9 : PySem.W.codeIn K cd9 "greatest_sum" = true)
    (k9 : PySem.W.keepIn K (.ref f9) = true)
    (a10 : PySem.W.nsIn K mainGlobals "_law_start" = some (some (.ref f10)))
    (l10 : K.lookup f10 = some ⟨oc10, od10, .func (PySem.W.fnOf "_law_start" "_law_start" (defArgs s_law_start) (defBody s_law_start) (defScope s_law_start) .none kV10 dc10 pm10 an10 cd10 ct10), sl10⟩)
    (c10 : PySem.W.codeIn K cd10 "_law_start" = true)
    (k10 : PySem.W.keepIn K (.ref f10) = true)
    (a11 : PySem.W.nsIn K mainGlobals "_law_draw" = some (some (.ref f11)))
    (l11 : K.lookup f11 = some ⟨oc11, od11, .func (PySem.W.fnOf "_law_draw" "_law_draw" (defArgs s_law_draw) (defBody s_law_draw) (defScope s_law_draw) .none kV11 dc11 pm11 an11 cd11 ct11), sl11⟩)
    (c11 : PySem.W.codeIn K cd11 "_law_draw" = true)
    (k11 : PySem.W.keepIn K (.ref f11) = true)
    (a12 : PySem.W.nsIn K mainGlobals "_law_names" = some (some (.ref f12)))
    (l12 : K.lookup f12 = some ⟨oc12, od12, .func (PySem.W.fnOf "_law_names" "_law_names" (defArgs s_law_names) (defBody s_law_names) (defScope s_law_names) .none kV12 dc12 pm12 an12 cd12 ct12), sl12⟩)
    (c12 : PySem.W.codeIn K cd12 "_law_names" = true)
    (k12 : PySem.W.keepIn K (.ref f12) = true)
    (a13 : PySem.W.nsIn K mainGlobals "_law_good" = some (some (.ref f13)))
    (l13 : K.lookup f13 = some ⟨oc13, od13, .func (PySem.W.fnOf "_law_good" "_law_good" (defArgs s_law_good) (defBody s_law_good) (defScope s_law_good) .none kV13 dc13 pm13 an13 cd13 ct13), sl13⟩)
    (c13 : PySem.W.codeIn K cd13 "_law_good" = true)
    (k13 : PySem.W.keepIn K (.ref f13) = true)
    (a14 : PySem.W.nsIn K mainGlobals "_law_order" = some (some (.ref f14)))
    (l14 : K.lookup f14 = some ⟨oc14, od14, .func (PySem.W.fnOf "_law_order" "_law_order" (defArgs s_law_order) (defBody s_law_order) (defScope s_law_order) .none kV14 dc14 pm14 an14 cd14 ct14), sl14⟩)
    (c14 : PySem.W.codeIn K cd14 "_law_order" = true)
    (k14 : PySem.W.keepIn K (.ref f14) = true)
    (a15 : PySem.W.nsIn K mainGlobals "_law_bundles" = some (some (.ref f15)))
    (l15 : K.lookup f15 = some ⟨oc15, od15, .func (PySem.W.fnOf "_law_bundles" "_law_bundles" (defArgs s_law_bundles) (defBody s_law_bundles) (defScope s_law_bundles) .none kV15 dc15 pm15 an15 cd15 ct15), sl15⟩)
    (c15 : PySem.W.codeIn K cd15 "_law_bundles" = true)
    (k15 : PySem.W.keepIn K (.ref f15) = true)
    (a16 : PySem.W.nsIn K mainGlobals "_law_odd" = some (some (.ref f16)))
    (l16 : K.lookup f16 = some ⟨oc16, od16, .func (PySem.W.fnOf "_law_odd" "_law_odd" (defArgs s_law_odd) (defBody s_law_odd) (defScope s_law_odd) .none kV16 dc16 pm16 an16 cd16 ct16), sl16⟩)
    (c16 : PySem.W.codeIn K cd16 "_law_odd" = true)
    (k16 : PySem.W.keepIn K (.ref f16) = true)
    (a17 : PySem.W.nsIn K mainGlobals "_law_worth_ok" = some (some (.ref f17)))
    (l17 : K.lookup f17 = some ⟨oc17, od17, .func (PySem.W.fnOf "_law_worth_ok" "_law_worth_ok" (defArgs s_law_worth_ok) (defBody s_law_worth_ok) (defScope s_law_worth_ok) .none kV17 dc17 pm17 an17 cd17 ct17), sl17⟩)
    (c17 : PySem.W.codeIn K cd17 "_law_worth_ok" = true)
    (k17 : PySem.W.keepIn K (.ref f17) = true)
    (a18 : PySem.W.nsIn K mainGlobals "_law_told" = some (some (.ref f18)))
    (l18 : K.lookup f18 = some ⟨oc18, od18, .func (PySem.W.fnOf "_law_told" "_law_told" (defArgs s_law_told) (defBody s_law_told) (defScope s_law_told) .none kV18 dc18 pm18 an18 cd18 ct18), sl18⟩)
    (c18 : PySem.W.codeIn K cd18 "_law_told" = true)
    (k18 : PySem.W.keepIn K (.ref f18) = true)
    (a19 : PySem.W.nsIn K mainGlobals "_law_made" = some (some (.ref f19)))
    (l19 : K.lookup f19 = some ⟨oc19, od19, .func (PySem.W.fnOf "_law_made" "_law_made" (defArgs s_law_made) (defBody s_law_made) (defScope s_law_made) .none kV19 dc19 pm19 an19 cd19 ct19), sl19⟩)
    (c19 : PySem.W.codeIn K cd19 "_law_made" = true)
    (k19 : PySem.W.keepIn K (.ref f19) = true)
    (a20 : PySem.W.nsIn K mainGlobals "_law_due" = some (some (.ref f20)))
    (l20 : K.lookup f20 = some ⟨oc20, od20, .func (PySem.W.fnOf "_law_due" "_law_due" (defArgs s_law_due) (defBody s_law_due) (defScope s_law_due) .none kV20 dc20 pm20 an20 cd20 ct20), sl20⟩)
    (c20 : PySem.W.codeIn K cd20 "_law_due" = true)
    (k20 : PySem.W.keepIn K (.ref f20) = true)
    (a21 : PySem.W.nsIn K mainGlobals "law" = some (some (.ref f21)))
    (l21 : K.lookup f21 = some ⟨oc21, od21, .func (PySem.W.fnOf "law" "law" (defArgs s_law) (defBody s_law) (defScope s_law) .none kV21 dc21 pm21 an21 cd21 ct21), sl21⟩)
    (c21 : PySem.W.codeIn K cd21 "law" = true)
    (k21 : PySem.W.keepIn K (.ref f21) = true)
    (z_abs : PySem.W.nsIn K mainGlobals "abs" = some none)
    (z_list : PySem.W.nsIn K mainGlobals "list" = some none)
    (z_int : PySem.W.nsIn K mainGlobals "int" = some none)
    (z_len : PySem.W.nsIn K mainGlobals "len" = some none)
    (z_all : PySem.W.nsIn K mainGlobals "all" = some none)
    (z_range : PySem.W.nsIn K mainGlobals "range" = some none)
    (z_isinstance : PySem.W.nsIn K mainGlobals "isinstance" = some none)
    (z_str : PySem.W.nsIn K mainGlobals "str" = some none)
    (z_enumerate : PySem.W.nsIn K mainGlobals "enumerate" = some none)
    (z_tuple : PySem.W.nsIn K mainGlobals "tuple" = some none)
    (z_sorted : PySem.W.nsIn K mainGlobals "sorted" = some none)
    (z_bool : PySem.W.nsIn K mainGlobals "bool" = some none)
    (z_dict : PySem.W.nsIn K mainGlobals "dict" = some none)
    (z_sum : PySem.W.nsIn K mainGlobals "sum" = some none)
    (z_set : PySem.W.nsIn K mainGlobals "set" = some none)
    (z_zip : PySem.W.nsIn K mainGlobals "zip" = some none)
    (q_LETTERS : PySem.W.nsIn K mainGlobals "LETTERS" = some (some u_LETTERS))
    (r_LETTERS : L2.RelV (.str LET) u_LETTERS)
    (q_DIGITS : PySem.W.nsIn K mainGlobals "DIGITS" = some (some u_DIGITS))
    (r_DIGITS : L2.RelV (.str DIG) u_DIGITS)
    (q_MOST_SIGNS : PySem.W.nsIn K mainGlobals "MOST_SIGNS" = some (some u_MOST_SIGNS))
    (r_MOST_SIGNS : L2.RelV (.int 6) u_MOST_SIGNS)
    (q_MOST_GOODS : PySem.W.nsIn K mainGlobals "MOST_GOODS" = some (some u_MOST_GOODS))
    (r_MOST_GOODS : L2.RelV (.int 5) u_MOST_GOODS)
    (q_MOST_WORTH : PySem.W.nsIn K mainGlobals "MOST_WORTH" = some (some u_MOST_WORTH))
    (r_MOST_WORTH : L2.RelV (.int 1000000) u_MOST_WORTH) :
    ∃ fd : FuncData, (∀ (s : Shared) (v : Value), BindsTo s fd ⟨[v], []⟩ [("_law_script", v)]) ∧ ∀ base : Heap, K.In base → base.Ns mainGlobals mg → FnOk l.prog w K mg base CX0 9 fa fd ["_law_script"] (sp_law K) := by
  have e := hfa.symm.trans (PySem.W.mg_of X G a21)
  cases e
  have F_valid_name := fun_mk (st := s_valid_name) l0 c0 k0
  have g_valid_name := PySem.W.mg_of X G a0
  have b_valid_name := F_valid_name.binds (ps := ["text"]) fun _ _ _ _ _ _ us hl => match us, hl with | [_], _ => rfl
  have F_goods_of := fun_mk (st := s_goods_of) l1 c1 k1
  have g_goods_of := PySem.W.mg_of X G a1
  have b_goods_of := F_goods_of.binds (ps := ["names"]) fun _ _ _ _ _ _ us hl => match us, hl with | [_], _ => rfl
  have F_all_bundles := fun_mk (st := s_all_bundles) l2 c2 k2
  have g_all_bundles := PySem.W.mg_of X G a2
  have b_all_bundles := F_all_bundles.binds (ps := ["goods"]) fun _ _ _ _ _ _ us hl => match us, hl with | [_], _ => rfl
  have F_union := fun_mk (st := s_union) l3 c3 k3
  have g_union := PySem.W.mg_of X G a3
  have b_union := F_union.binds (ps := ["one", "other"]) fun _ _ _ _ _ _ us hl => match us, hl with | [_, _], _ => rfl
  have F_rest := fun_mk (st := s_rest) l4 c4 k4
  have g_rest := PySem.W.mg_of X G a4
  have b_rest := F_rest.binds (ps := ["one", "other"]) fun _ _ _ _ _ _ us hl => match us, hl with | [_, _], _ => rfl
  have F_filled_bundles := fun_mk (st := s_filled_bundles) l5 c5 k5
  have g_filled_bundles := PySem.W.mg_of X G a5
  have b_filled_bundles := F_filled_bundles.binds (ps := ["goods"]) fun _ _ _ _ _ _ us hl => match us, hl with | [_], _ => rfl
  have F_worths_of := fun_mk (st := s_worths_of) l6 c6 k6
  have g_worths_of := PySem.W.mg_of X G a6
  have b_worths_of := F_worths_of.binds (ps := ["goods", "numbers"]) fun _ _ _ _ _ _ us hl => match us, hl with | [_, _], _ => rfl
  have F_is_worth := fun_mk (st := s_is_worth) l7 c7 k7
  have g_is_worth := PySem.W.mg_of X G a7
  have b_is_worth := F_is_worth.binds (ps := ["value"]) fun _ _ _ _ _ _ us hl => match us, hl with | [_], _ => rfl
  have F_check_amounts := fun_mk (st := s_check_amounts) l8 c8 k8
  have g_check_amounts := PySem.W.mg_of X G a8
  have b_check_amounts := F_check_amounts.binds (ps := ["goods", "amounts"]) fun _ _ _ _ _ _ us hl => match us, hl with | [_, _], _ => rfl
  have F_greatest_sum := fun_mk (st := s_greatest_sum) l9 c9 k9
  have g_greatest_sum := PySem.W.mg_of X G a9
  have b_greatest_sum := F_greatest_sum.binds (ps := ["amounts", "bundle", "most"]) fun _ _ _ _ _ _ us hl => match us, hl with | [_, _, _], _ => rfl
  have F_law_start := fun_mk (st := s_law_start) l10 c10 k10
  have g_law_start := PySem.W.mg_of X G a10
  have b_law_start := F_law_start.binds (ps := ["_law_script"]) fun _ _ _ _ _ _ us hl => match us, hl with | [_], _ => rfl
  have F_law_draw := fun_mk (st := s_law_draw) l11 c11 k11
  have g_law_draw := PySem.W.mg_of X G a11
  have b_law_draw := F_law_draw.binds (ps := ["_law_state", "_law_size"]) fun _ _ _ _ _ _ us hl => match us, hl with | [_, _], _ => rfl
  have F_law_names := fun_mk (st := s_law_names) l12 c12 k12
  have g_law_names := PySem.W.mg_of X G a12
  have b_law_names := F_law_names.binds (ps := ["_law_state", "_law_count"]) fun _ _ _ _ _ _ us hl => match us, hl with | [_, _], _ => rfl
  have F_law_good := fun_mk (st := s_law_good) l13 c13 k13
  have g_law_good := PySem.W.mg_of X G a13
  have b_law_good := F_law_good.binds (ps := ["_law_word"]) fun _ _ _ _ _ _ us hl => match us, hl with | [_], _ => rfl
  have F_law_order := fun_mk (st := s_law_order) l14 c14 k14
  have g_law_order := PySem.W.mg_of X G a14
  have b_law_order := F_law_order.binds (ps := ["_law_state", "_law_items"]) fun _ _ _ _ _ _ us hl => match us, hl with | [_, _], _ => rfl
  have F_law_bundles := fun_mk (st := s_law_bundles) l15 c15 k15
  have g_law_bundles := PySem.W.mg_of X G a15
  have b_law_bundles := F_law_bundles.binds (ps := ["_law_goods"]) fun _ _ _ _ _ _ us hl => match us, hl with | [_], _ => rfl
  have F_law_odd := fun_mk (st := s_law_odd) l16 c16 k16
  have g_law_odd := PySem.W.mg_of X G a16
  have b_law_odd := F_law_odd.binds (ps := ["_law_state"]) fun _ _ _ _ _ _ us hl => match us, hl with | [_], _ => rfl
  have F_law_worth_ok := fun_mk (st := s_law_worth_ok) l17 c17 k17
  have g_law_worth_ok := PySem.W.mg_of X G a17
  have b_law_worth_ok := F_law_worth_ok.binds (ps := ["_law_thing"]) fun _ _ _ _ _ _ us hl => match us, hl with | [_], _ => rfl
  have F_law_told := fun_mk (st := s_law_told) l18 c18 k18
  have g_law_told := PySem.W.mg_of X G a18
  have b_law_told := F_law_told.binds (ps := ["_law_table"]) fun _ _ _ _ _ _ us hl => match us, hl with | [_], _ => rfl
  have F_law_made := fun_mk (st := s_law_made) l19 c19 k19
  have g_law_made := PySem.W.mg_of X G a19
  have b_law_made := F_law_made.binds (ps := ["_law_plan", "_law_given", "_law_many"]) fun _ _ _ _ _ _ us hl => match us, hl with | [_, _, _], _ => rfl
  have F_law_due := fun_mk (st := s_law_due) l20 c20 k20
  have g_law_due := PySem.W.mg_of X G a20
  have b_law_due := F_law_due.binds (ps := ["_law_plan", "_law_given", "_law_many"]) fun _ _ _ _ _ _ us hl => match us, hl with | [_, _, _], _ => rfl
  have F_law := fun_mk (st := s_law) l21 c21 k21
  have FM_goods := fun_mk (st := s_Table_goods) lMgoods cMgoods kMgoods
  have bM_goods := FM_goods.binds (ps := ["self"]) fun _ _ _ _ _ _ us hl => match us, hl with | [_], _ => rfl
  have FM_numbers := fun_mk (st := s_Table_numbers) lMnumbers cMnumbers kMnumbers
  have bM_numbers := FM_numbers.binds (ps := ["self"]) fun _ _ _ _ _ _ us hl => match us, hl with | [_], _ => rfl
  have FM_eq := fun_mk (st := s_Table_eq) lMeq cMeq kMeq
  have bM_eq := FM_eq.binds (ps := ["self", "other"]) fun _ _ _ _ _ _ us hl => match us, hl with | [_, _], _ => rfl
  have FM_plain := fun_mk (st := s_Table_plain) lMplain cMplain kMplain
  have bM_plain := FM_plain.binds (ps := ["cls", "amounts"]) fun _ _ _ _ _ _ us hl => match us, hl with | [_, _], _ => rfl
  have FM_one_of := fun_mk (st := s_Table_one_of) lMone_of cMone_of kMone_of
  have bM_one_of := FM_one_of.binds (ps := ["cls", "amounts"]) fun _ _ _ _ _ _ us hl => match us, hl with | [_, _], _ => rfl
  have FM_some_of := fun_mk (st := s_Table_some_of) lMsome_of cMsome_of kMsome_of
  have bM_some_of := FM_some_of.binds (ps := ["cls", "amounts", "most"]) fun _ _ _ _ _ _ us hl => match us, hl with | [_, _, _], _ => rfl
  have FI := fun_mk (st := s_Table_init) lI cI kI
  have bI := FI.binds (ps := ["self", "goods", "numbers"]) fun _ _ _ _ _ _ us hl => match us, hl with | [_, _, _], _ => rfl
  have m_abs := PySem.W.mg_none_of X G z_abs
  have m_list := PySem.W.mg_none_of X G z_list
  have m_int := PySem.W.mg_none_of X G z_int
  have m_len := PySem.W.mg_none_of X G z_len
  have m_all := PySem.W.mg_none_of X G z_all
  have m_range := PySem.W.mg_none_of X G z_range
  have m_isinstance := PySem.W.mg_none_of X G z_isinstance
  have m_str := PySem.W.mg_none_of X G z_str
  have m_enumerate := PySem.W.mg_none_of X G z_enumerate
  have m_tuple := PySem.W.mg_none_of X G z_tuple
  have m_sorted := PySem.W.mg_none_of X G z_sorted
  have m_bool := PySem.W.mg_none_of X G z_bool
  have m_dict := PySem.W.mg_none_of X G z_dict
  have m_sum := PySem.W.mg_none_of X G z_sum
  have m_set := PySem.W.mg_none_of X G z_set
  have m_zip := PySem.W.mg_none_of X G z_zip
  have m_LETTERS : ∃ u, mg "LETTERS" = some u ∧ L2.RelV (.str LET) u := ⟨_, PySem.W.mg_of X G q_LETTERS, r_LETTERS⟩
  have m_DIGITS : ∃ u, mg "DIGITS" = some u ∧ L2.RelV (.str DIG) u := ⟨_, PySem.W.mg_of X G q_DIGITS, r_DIGITS⟩
  have m_MOST_SIGNS : ∃ u, mg "MOST_SIGNS" = some u ∧ L2.RelV (.int 6) u := ⟨_, PySem.W.mg_of X G q_MOST_SIGNS, r_MOST_SIGNS⟩
  have m_MOST_GOODS : ∃ u, mg "MOST_GOODS" = some u ∧ L2.RelV (.int 5) u := ⟨_, PySem.W.mg_of X G q_MOST_GOODS, r_MOST_GOODS⟩
  have m_MOST_WORTH : ∃ u, mg "MOST_WORTH" = some u ∧ L2.RelV (.int 1000000) u := ⟨_, PySem.W.mg_of X G q_MOST_WORTH, r_MOST_WORTH⟩
  have g_Table := PySem.W.mg_of X G aCP
  have g_is_whole := PySem.W.mg_of X G aW
  have FW := fund_dfl (st := s_is_whole) lW tW cW kW
  have bW := binds_whole3 FW
  have cls : Cls K CT := ⟨pg_, hd_, po_, sa_⟩
  have M : Mk K CT fi := ⟨mk_, ai_, ii_, kc_⟩
  have pG : PropOf K CT "goods" pp_goods fm_goods := ⟨pa_goods, pe_goods, pt_goods, rest_goods, pr_goods⟩
  have pN : PropOf K CT "numbers" pp_numbers fm_numbers := ⟨pa_numbers, pe_numbers, pt_numbers, rest_numbers, pr_numbers⟩
  have OE : OwnEq K CT fm_eq := ⟨ma_eq, mi_eq⟩
  have insC : InsC K CT := ⟨cla_, clb_, clc_, obi_, kit_⟩
  have rT : ClX.CRead K CT (.type "type") := ⟨rd_, rg_⟩
  have cmP : ClX.CMet K CT (.type "type") "plain" pp_plain fm_plain := ⟨pc_plain, ⟨_, pr_plain⟩, pf_plain⟩
  have cmO : ClX.CMet K CT (.type "type") "one_of" pp_one_of fm_one_of := ⟨pc_one_of, ⟨_, pr_one_of⟩, pf_one_of⟩
  have cmS : ClX.CMet K CT (.type "type") "some_of" pp_some_of fm_some_of := ⟨pc_some_of, ⟨_, pr_some_of⟩, pf_some_of⟩
  have WT : WhoT K ⟨CT, CBadCount, CBadName, CDuplicateName, CBadWorth, CNotRising⟩ := ⟨w_bb, w_nb, w_nn, w_wb, w_wn, w_ww⟩
  have kbP : KBinds K (PySem.W.fnOf "plain" "Table.plain" (defArgs s_Table_plain) (defBody s_Table_plain) (defScope s_Table_plain) .none kVMplain dcMplain pmMplain anMplain cdMplain ctMplain) ["cls", "amounts"] ["amounts"] kwG kwG := ⟨fun s us ws _ hl => match us, ws, hl with | [_], [_], _ => .of_eq rfl, kwG_rel⟩
  have kbO : KBinds K (PySem.W.fnOf "one_of" "Table.one_of" (defArgs s_Table_one_of) (defBody s_Table_one_of) (defScope s_Table_one_of) .none kVMone_of dcMone_of pmMone_of anMone_of cdMone_of ctMone_of) ["cls", "amounts"] ["amounts"] kwG kwG := ⟨fun s us ws _ hl => match us, ws, hl with | [_], [_], _ => .of_eq rfl, kwG_rel⟩
  have kbS : KBinds K (PySem.W.fnOf "some_of" "Table.some_of" (defArgs s_Table_some_of) (defBody s_Table_some_of) (defScope s_Table_some_of) .none kVMsome_of dcMsome_of pmMsome_of anMsome_of cdMsome_of ctMsome_of) ["cls", "amounts", "most"] ["most", "amounts"] kwG2 kwG2 := ⟨fun s us ws _ hl => match us, ws, hl with | [_], [_, _], _ => .of_eq rfl, kwG2_rel⟩
  refine ⟨PySem.W.fnOf "law" "law" (defArgs s_law) (defBody s_law) (defScope s_law) .none kV21 dc21 pm21 an21 cd21 ct21, fun s v => .of_eq rfl, fun base _ _ => ?_⟩
  have GV : FnOk l.prog w K mg base CX0 2 _ _ ["text"] sp_vn := ok_vn F_valid_name m_len m_all m_LETTERS m_DIGITS m_MOST_SIGNS
  have GD : FnOk l.prog w K mg base CX0 1 _ _ ["_law_state", "_law_size"] sp_draw := ok_draw F_law_draw m_int m_len
  have GDW : FnOk l.prog w K mg base CX0 1 _ _ ["_law_state", "_law_size"] sp_drawW := ok_drawW F_law_draw m_int m_len
  have GG : FnOk l.prog w K mg base (L2.CX l.prog w) 3 _ _ ["names"] (sp_goods K CBadCount CBadName CDuplicateName) := ok_goods F_goods_of (E_BadCount base) (E_BadName base) (E_DuplicateName base) F_valid_name b_valid_name g_valid_name GV m_len m_enumerate m_tuple m_sorted m_MOST_GOODS
  have GW : FnOk l.prog w K mg base CX0 1 _ _ ["value", "least", "most"] sp_whole3 := ok_whole3 FW m_isinstance m_int m_bool
  have GWo : FnOk l.prog w K mg base CX0 2 _ _ ["value"] sp_worth := ok_worth F_is_worth m_MOST_WORTH FW bW g_is_whole GW
  have GAb : FnOk l.prog w K mg base CX0 1 _ _ ["goods"] (sp_allb K) := ok_allb F_all_bundles
  have GUn : FnOk l.prog w K mg base CX0 1 _ _ ["one", "other"] (sp_union K) := ok_union F_union m_set m_sorted m_tuple
  have GRe : FnOk l.prog w K mg base CX0 1 _ _ ["one", "other"] (sp_rest K) := ok_rest F_rest m_tuple
  have GWs : FnOk l.prog w K mg base (L2.CX l.prog w) 3 _ _ ["goods", "numbers"] (sp_worths K CBadCount CBadWorth CNotRising) := ok_worths F_worths_of (E_BadCount base) (E_BadWorth base) (E_NotRising base) F_all_bundles b_all_bundles g_all_bundles GAb F_is_worth b_is_worth g_is_worth GWo F_rest b_rest g_rest GRe F_union b_union g_union GUn m_len m_dict m_zip
  have GFi : FnOk l.prog w K mg base CX0 2 _ _ ["goods"] (sp_filled K) := ok_filled F_filled_bundles F_all_bundles b_all_bundles g_all_bundles GAb
  have GCh : FnOk l.prog w K mg base (L2.CX l.prog w) 3 _ _ ["goods", "amounts"] (sp_check K CBadWorth) := ok_check F_check_amounts (E_BadWorth base) F_is_worth b_is_worth g_is_worth GWo
  have GGr : FnOk l.prog w K mg base CX0 1 _ _ ["amounts", "bundle", "most"] (sp_great K) := ok_great F_greatest_sum m_sum m_sorted
  have GI : FnOk l.prog w K mg base (L2.CX l.prog w) 4 _ _ ["self", "goods", "numbers"] (sp_tinit K ⟨CT, CBadCount, CBadName, CDuplicateName, CBadWorth, CNotRising⟩) := ok_tinit FI cls nG nW nN F_goods_of b_goods_of g_goods_of GG F_worths_of b_worths_of g_worths_of GWs m_tuple
  have GS : FnOk l.prog w K mg base (L2.CX l.prog w) 6 _ _ ["cls", "amounts", "most"] (sp_some ⟨CT, CBadCount, CBadName, CDuplicateName, CBadWorth, CNotRising⟩) := ok_some FM_some_of M bI GI (E_BadCount base) F_goods_of b_goods_of g_goods_of GG F_check_amounts b_check_amounts g_check_amounts GCh FW bW g_is_whole GW F_greatest_sum b_greatest_sum g_greatest_sum GGr F_filled_bundles b_filled_bundles g_filled_bundles GFi m_sorted m_len
  have GP : FnOk l.prog w K mg base (L2.CX l.prog w) 7 _ _ ["cls", "amounts"] (sp_plain ⟨CT, CBadCount, CBadName, CDuplicateName, CBadWorth, CNotRising⟩) := ok_plain FM_plain rT cmS bM_some_of GS m_len
  have GOn : FnOk l.prog w K mg base (L2.CX l.prog w) 7 _ _ ["cls", "amounts"] (sp_one ⟨CT, CBadCount, CBadName, CDuplicateName, CBadWorth, CNotRising⟩) := ok_one FM_one_of rT cmS bM_some_of GS
  have GPG : FnOk l.prog w K mg base CX0 1 _ _ ["self"] (sp_tgoods CT) := ok_tgoods FM_goods cls nG
  have GPN : FnOk l.prog w K mg base CX0 1 _ _ ["self"] (sp_tnumbers CT) := ok_tnumbers FM_numbers cls nN
  have GE : FnOk l.prog w K mg base CX0 1 _ _ ["self", "other"] (sp_teq CT) := ok_teq FM_eq cls insC nG nN g_Table m_isinstance
  have GO : FnOk l.prog w K mg base CX0 1 _ _ ["_law_word"] sp_vn := ok_good F_law_good m_len
  have GF : FnOk l.prog w K mg base CX0 1 _ _ ["_law_thing"] sp_worth := ok_worthok F_law_worth_ok m_isinstance m_int m_bool
  have GT : FnOk l.prog w K mg base CX0 3 _ _ ["_law_table"] (sp_told CT) := ok_told F_law_told cls pG GPG bM_goods pN GPN bM_numbers
  have GM : FnOk l.prog w K mg base CX0 8 _ _ ["_law_plan", "_law_given", "_law_many"] sp_tmade := ok_made (c := ⟨CT, CBadCount, CBadName, CDuplicateName, CBadWorth, CNotRising⟩) F_law_made (E_BadCount base).X (E_BadName base).X (E_BadWorth base).X (E_BadCount base).no (E_BadName base).no (E_BadWorth base).no (E_BadCount base).g (E_BadName base).g (E_BadWorth base).g WT g_Table rT cmS bM_some_of GS cmP bM_plain GP cmO bM_one_of GOn F_law_told b_law_told g_law_told GT noFall m_isinstance m_bool
  have GB : FnOk l.prog w K mg base CX0 1 _ _ ["_law_goods"] (sp_lbun K) := ok_lbun F_law_bundles m_len m_sorted
  have GU : FnOk l.prog w K mg base CX0 2 _ _ ["_law_plan", "_law_given", "_law_many"] sp_tmade := ok_due F_law_due F_law_good b_law_good g_law_good GO F_law_worth_ok b_law_worth_ok g_law_worth_ok GF F_law_bundles b_law_bundles g_law_bundles GB m_len m_tuple m_sorted m_isinstance m_bool m_int m_sum
  have GOr : FnOk l.prog w K mg base CX0 2 _ _ ["_law_state", "_law_items"] (sp_order K) := ok_order F_law_order F_law_draw b_law_draw g_law_draw GD m_range m_len m_list
  have GN : FnOk l.prog w K mg base CX0 2 _ _ ["_law_state", "_law_count"] sp_names := ok_names F_law_names F_law_draw b_law_draw g_law_draw GD m_range m_str m_int
  have GOd : FnOk l.prog w K mg base CX0 2 _ _ ["_law_state"] sp_odd := ok_odd F_law_odd F_law_draw b_law_draw g_law_draw GD
  exact ok_law (c := ⟨CT, CBadCount, CBadName, CDuplicateName, CBadWorth, CNotRising⟩) F_law F_law_start b_law_start g_law_start (ok_start F_law_start m_abs m_list) F_law_draw b_law_draw g_law_draw GDW F_law_names b_law_names g_law_names GN F_law_order b_law_order g_law_order GOr F_law_odd b_law_odd g_law_odd GOd F_law_due b_law_due g_law_due GU F_law_made b_law_made g_law_made GM F_law_told b_law_told g_law_told GT g_Table rT cmS GS kbS cmP GP kbP cmO GOn kbO OE GE bM_eq m_len m_range m_dict m_list
end Lw
open PySem PySem.W PyProof.Rows
set_option maxHeartbeats 0 in
theorem PySem.Challenge.cw_bundlekinds_k22_plain_builders_holds : PySem.Challenge.rw_bundlekinds_k22_plain_builders.Holds := by
  w_on; o_law; k_head; (case hw => w_witness2)
  k_fill
  refine L2.walk_of (l := PySem.Challenge.rw_bundlekinds_k22_plain_builders) (n := 63) (k := 9) (x := "_law_script") (CX := fun _ => L2.CX0) (sp := fun w => Lw.sp_law _) rfl (by decide) rfl ⟨rfl, by decide, by decide⟩ (fun w h Y => PySem.W.kIn_of Y) ?F (fun _ _ a ns hl _ hS => ⟨a, ns, rfl, hS, hl, fun _ => rfl⟩) (fun _ _ _ _ _ h => h)
  case F =>
    intro w mg fa h KX G hmg
    have P_BadName := Lw.erc_mk (P := PySem.Challenge.rw_bundlekinds_k22_plain_builders.prog) (w := w) KX G (c := "BadName") (f := "name") (qn := "BadName.__init__") Lw.s_iBadName Lw.ok_iBadName (fun F => F.binds fun _ _ _ _ _ _ us hl => match us, hl with | [_, _], _ => rfl) (by k_is) (by k_is) (by k_is) (by k_is) (by k_is) (by k_is) (by k_is) (by k_is) (by k_is) (by k_is) (by k_is) (by k_is) (by k_is) (by k_is) (by k_is) (by k_is) (by k_is) (by k_is) (by k_is)
    have P_DuplicateName := Lw.erc_mk (P := PySem.Challenge.rw_bundlekinds_k22_plain_builders.prog) (w := w) KX G (c := "DuplicateName") (f := "name") (qn := "DuplicateName.__init__") Lw.s_iDuplicateName Lw.ok_iDuplicateName (fun F => F.binds fun _ _ _ _ _ _ us hl => match us, hl with | [_, _], _ => rfl) (by k_is) (by k_is) (by k_is) (by k_is) (by k_is) (by k_is) (by k_is) (by k_is) (by k_is) (by k_is) (by k_is) (by k_is) (by k_is) (by k_is) (by k_is) (by k_is) (by k_is) (by k_is) (by k_is)
    have P_BadCount := Lw.erc_mk (P := PySem.Challenge.rw_bundlekinds_k22_plain_builders.prog) (w := w) KX G (c := "BadCount") (f := "count") (qn := "BadCount.__init__") Lw.s_iBadCount Lw.ok_iBadCount (fun F => F.binds fun _ _ _ _ _ _ us hl => match us, hl with | [_, _], _ => rfl) (by k_is) (by k_is) (by k_is) (by k_is) (by k_is) (by k_is) (by k_is) (by k_is) (by k_is) (by k_is) (by k_is) (by k_is) (by k_is) (by k_is) (by k_is) (by k_is) (by k_is) (by k_is) (by k_is)
    have P_BadWorth := Lw.erc_mk (P := PySem.Challenge.rw_bundlekinds_k22_plain_builders.prog) (w := w) KX G (c := "BadWorth") (f := "worth") (qn := "BadWorth.__init__") Lw.s_iBadWorth Lw.ok_iBadWorth (fun F => F.binds fun _ _ _ _ _ _ us hl => match us, hl with | [_, _], _ => rfl) (by k_is) (by k_is) (by k_is) (by k_is) (by k_is) (by k_is) (by k_is) (by k_is) (by k_is) (by k_is) (by k_is) (by k_is) (by k_is) (by k_is) (by k_is) (by k_is) (by k_is) (by k_is) (by k_is)
    have P_NotRising := Lw.erc2_mk (P := PySem.Challenge.rw_bundlekinds_k22_plain_builders.prog) (w := w) KX G (c := "NotRising") (f := "value") (f2 := "name") (qn := "NotRising.__init__") Lw.s_iNotRising Lw.ok_iNotRising (fun F => F.binds fun _ _ _ _ _ _ us hl => match us, hl with | [_, _, _], _ => rfl) (by k_is) (by k_is) (by k_is) (by k_is) (by k_is) (by k_is) (by k_is) (by k_is) (by k_is) (by k_is) (by k_is) (by k_is) (by k_is) (by k_is) (by k_is) (by k_is) (by k_is) (by k_is) (by k_is) (by k_is)
    refine' Lw.all_mk KX G hmg P_BadName P_DuplicateName P_BadCount P_BadWorth P_NotRising ?w_bb ?w_nb ?w_nn ?w_wb ?w_wn ?w_ww ?aCP ?pg_ ?hd_ ?po_ ?sa_ ?mk_ ?kc_ ?ai_ ?ii_ ?lI ?cI ?kI ?nG ?nW ?nN ?obi_ ?cla_ ?clb_ ?clc_ ?kit_ ?rd_ ?rg_ ?pa_goods ?pe_goods ?pt_goods ?pr_goods ?lMgoods ?cMgoods ?kMgoods ?pa_numbers ?pe_numbers ?pt_numbers ?pr_numbers ?lMnumbers ?cMnumbers ?kMnumbers ?ma_eq ?mi_eq ?lMeq ?cMeq ?kMeq ?pa_plain ?pc_plain ?pr_plain ?pf_plain ?lMplain ?cMplain ?kMplain ?pa_one_of ?pc_one_of ?pr_one_of ?pf_one_of ?lMone_of ?cMone_of ?kMone_of ?pa_some_of ?pc_some_of ?pr_some_of ?pf_some_of ?lMsome_of ?cMsome_of ?kMsome_of ?aW ?lW ?cW ?kW ?tW ?a0 ?l0 ?c0 ?k0 ?a1 ?l1 ?c1 ?k1 ?a2 ?l2 ?c2 ?k2 ?a3 ?l3 ?c3 ?k3 ?a4 ?l4 ?c4 ?k4 ?a5 ?l5 ?c5 ?k5 ?a6 ?l6 ?c6 ?k6 ?a7 ?l7 ?c7 ?k7 ?a8 ?l8 ?c8 ?k8 ?a9 ?l9 ?c9 ?k9 ?a10 ?l10 ?c10 ?k10 ?a11 ?l11 ?c11 ?k11 ?a12 ?l12 ?c12 ?k12 ?a13 ?l13 ?c13 ?k13 ?a14 ?l14 ?c14 ?k14 ?a15 ?l15 ?c15 ?k15 ?a16 ?l16 ?c16 ?k16 ?a17 ?l17 ?c17 ?k17 ?a18 ?l18 ?c18 ?k18 ?a19 ?l19 ?c19 ?k19 ?a20 ?l20 ?c20 ?k20 ?a21 ?l21 ?c21 ?k21 ?z_abs ?z_list ?z_int ?z_len ?z_all ?z_range ?z_isinstance ?z_str ?z_enumerate ?z_tuple ?z_sorted ?z_bool ?z_dict ?z_sum ?z_set ?z_zip ?q_LETTERS ?r_LETTERS ?q_DIGITS ?r_DIGITS ?q_MOST_SIGNS ?r_MOST_SIGNS ?q_MOST_GOODS ?r_MOST_GOODS ?q_MOST_WORTH ?r_MOST_WORTH
    (case aCP => k_is); (case ai_ => k_is); (case pa_goods => k_is); (case pa_numbers => k_is); (case pa_plain => k_is); (case pr_plain => k_is); (case pa_one_of => k_is); (case pr_one_of => k_is); (case pa_some_of => k_is); (case pr_some_of => k_is); (case w_bb => first | k_is | rfl | decide +kernel); (case w_nb => first | k_is | rfl | decide +kernel); (case w_nn => first | k_is | rfl | decide +kernel); (case w_wb => first | k_is | rfl | decide +kernel); (case w_wn => first | k_is | rfl | decide +kernel); (case w_ww => first | k_is | rfl | decide +kernel); (case pg_ => k_is); (case hd_ => k_is); (case po_ => k_is); (case sa_ => k_is); (case mk_ => k_is); (case kc_ => k_is); (case ii_ => k_is); (case lI => k_is); (case cI => k_is); (case kI => k_is); (case nG => k_is); (case nW => k_is); (case nN => k_is); (case obi_ => first | k_is | rfl | decide +kernel); (case cla_ => k_is); (case clb_ => first | k_is | rfl | decide +kernel); (case clc_ => first | k_is | rfl | decide +kernel); (case kit_ => first | k_is | rfl | decide +kernel); (case rd_ => first | k_is | rfl | decide +kernel); (case rg_ => first | k_is | rfl | decide +kernel); (case pe_goods => k_is); (case pt_goods => k_is); (case pr_goods => k_is); (case lMgoods => k_is); (case cMgoods => k_is); (case kMgoods => k_is); (case pe_numbers => k_is); (case pt_numbers => k_is); (case pr_numbers => k_is); (case lMnumbers => k_is); (case cMnumbers => k_is); (case kMnumbers => k_is); (case ma_eq => k_is); (case mi_eq => k_is); (case lMeq => k_is); (case cMeq => k_is); (case kMeq => k_is); (case pc_plain => first | k_is | rfl | decide +kernel); (case pf_plain => first | k_is | rfl | decide +kernel); (case lMplain => k_is); (case cMplain => k_is); (case kMplain => k_is); (case pc_one_of => first | k_is | rfl | decide +kernel); (case pf_one_of => first | k_is | rfl | decide +kernel); (case lMone_of => k_is); (case cMone_of => k_is); (case kMone_of => k_is); (case pc_some_of => first | k_is | rfl | decide +kernel); (case pf_some_of => first | k_is | rfl | decide +kernel); (case lMsome_of => k_is); (case cMsome_of => k_is); (case kMsome_of => k_is); (case aW => k_is); (case lW => k_is); (case cW => k_is); (case kW => k_is); (case tW => k_is); (case a0 => k_is); (case l0 => k_is); (case c0 => k_is); (case k0 => k_is); (case a1 => k_is); (case l1 => k_is); (case c1 => k_is); (case k1 => k_is); (case a2 => k_is); (case l2 => k_is); (case c2 => k_is); (case k2 => k_is); (case a3 => k_is); (case l3 => k_is); (case c3 => k_is); (case k3 => k_is); (case a4 => k_is); (case l4 => k_is); (case c4 => k_is); (case k4 => k_is); (case a5 => k_is); (case l5 => k_is); (case c5 => k_is); (case k5 => k_is); (case a6 => k_is); (case l6 => k_is); (case c6 => k_is); (case k6 => k_is); (case a7 => k_is); (case l7 => k_is); (case c7 => k_is); (case k7 => k_is); (case a8 => k_is); (case l8 => k_is); (case c8 => k_is); (case k8 => k_is); (case a9 => k_is); (case l9 => k_is); (case c9 => k_is); (case k9 => k_is); (case a10 => k_is); (case l10 => k_is); (case c10 => k_is); (case k10 => k_is); (case a11 => k_is); (case l11 => k_is); (case c11 => k_is); (case k11 => k_is); (case a12 => k_is); (case l12 => k_is); (case c12 => k_is); (case k12 => k_is); (case a13 => k_is); (case l13 => k_is); (case c13 => k_is); (case k13 => k_is); (case a14 => k_is); (case l14 => k_is); (case c14 => k_is); (case k14 => k_is); (case a15 => k_is); (case l15 => k_is); (case c15 => k_is); (case k15 => k_is); (case a16 => k_is); (case l16 => k_is); (case c16 => k_is); (case k16 => k_is); (case a17 => k_is); (case l17 => k_is); (case c17 => k_is); (case k17 => k_is); (case a18 => k_is); (case l18 => k_is); (case c18 => k_is); (case k18 => k_is); (case a19 => k_is); (case l19 => k_is); (case c19 => k_is); (case k19 => k_is); (case a20 => k_is); (case l20 => k_is); (case c20 => k_is); (case k20 => k_is); (case a21 => k_is); (case l21 => k_is); (case c21 => k_is); (case k21 => k_is); (case z_abs => k_is); (case z_list => k_is); (case z_int => k_is); (case z_len => k_is); (case z_all => k_is); (case z_range => k_is); (case z_isinstance => k_is); (case z_str => k_is); (case z_enumerate => k_is); (case z_tuple => k_is); (case z_sorted => k_is); (case z_bool => k_is); (case z_dict => k_is); (case z_sum => k_is); (case z_set => k_is); (case z_zip => k_is); (case q_LETTERS => k_is); (case r_LETTERS => exact ⟨_, rfl⟩); (case q_DIGITS => k_is); (case r_DIGITS => exact ⟨_, rfl⟩); (case q_MOST_SIGNS => k_is); (case r_MOST_SIGNS => exact ⟨_, rfl⟩); (case q_MOST_GOODS => k_is); (case r_MOST_GOODS => exact ⟨_, rfl⟩); (case q_MOST_WORTH => k_is); (case r_MOST_WORTH => exact ⟨_, rfl⟩)
