import PyProof.Rows.All
import HandS.ForMost
import HandS.IsInst
import HandS.Style
import HandS.TupAny
import HandS.TupLe
import HandS.Evl
import HandS.Walk
import HandS.ForExc
import HandS.ExcInit
import HandS.ExcField
import HandS.ExcIs
import HandS.TryMany
import KE.KExcIs
import KE.SortData
import KE.GoesMore
import HandS.Deep
import HandS.SetFor
import HandS.SetTxt0
import HandS.OwnEq
import HandS.ExcOwn
import HandS.ExcValue
import HandS.DictComp
import HandS.More
import HandS.Property
import HandS.MakeKwOnly
import HandS.MakeKw
import HandS.ListEq
import HandS.DictEq
import HandS.Wide
import PyProof.DictUpdate
import PyProof.DictDisplay
import PyProof.DictTable
import KE.KDictCopyH
import KE.KEqDict
import HandS.Dict
import Wide.All
import OpenK.AllK
import PyProof.EqAt
import PyProof.EqKinds
import PyProof.TupleCall
import PySem.Challenge.RW_bundlekinds_k31_prices_compared
set_option Elab.async false
set_option linter.all false
set_option maxRecDepth 100000
set_option maxHeartbeats 4000000
namespace Lw
open PySem PySem.Spec PyProof.Rows L2
/-! ### a list's item read for an augmented store -/
theorem pget_list {X : Cx} : PGet X (rIxL X.K) := by
  intro pins s σ H x y v u Q I rx ry h
  obtain ⟨p, xs, i, z, rfl, rfl, hq, he, q⟩ := h
  cases rx
  obtain ⟨t, rfl⟩ := ry
  obtain ⟨its, r, pl, hz⟩ := I.list hq
  obtain ⟨j, h1, h2, h3, h4, h5⟩ := atI_get he
  obtain ⟨w, ew, rw'⟩ := r.get h2
  have hl := r.length
  have hn := line63
  have fin : EP X pins σ Q w s := ⟨z, H, I, rw', q⟩
  by_cases h0 : 0 ≤ i
  · have hj : i.toNat = j := by
      rw [seqIndex_of h0 h5] at h1
      exact Option.some.inj h1
    exact wpAny_getItem_list pl.isList h0 (by omega) (by rw [hj]; simpa using ew) fin
  · have hj : (i + (its.toArray.size : Int)).toNat = j := by
      rw [seqIndex_neg (by omega) h4] at h1
      rw [List.size_toArray, ← hl]
      exact Option.some.inj h1
    exact wpAny_getItem_list_neg pl.isList (by omega) (by rw [List.size_toArray] <;> omega) (by omega) (by rw [hj]; simpa using ew) fin

/-- a constant of the module -/
theorem pe_gv {X : Cx} {x : Str} {pos : Pos} {v : V} (hg : Gl X x) (h : ∃ u, X.mg x = some u ∧ RelV v u) (hd : (x == ("__debug__" : Str)) = false := by decide) : PE X (.Name x pos) (tC v) := by
  obtain ⟨u, h1, h2⟩ := h
  exact pe_glob hg h1 h2 hd
/-! ### data that may be compared -/
def GoodD (n : Nat) (d : PyData) : Prop := d.canLay0 = true ∧ d.depth ≤ n
theorem GoodD.mono {n m : Nat} {d : PyData} (h : GoodD n d) (k : n ≤ m) : GoodD m d := ⟨h.1, Nat.le_trans h.2 k⟩
theorem GoodD.shaped {n : Nat} {d : PyData} (h : GoodD n d) (k : n ≤ 64) : SeqAt.shaped d = true := by
  unfold SeqAt.shaped
  rw [h.1, decide_eq_true (Nat.le_trans h.2 k)]
  rfl
theorem goodAll {n : Nat} : ∀ {ds : List PyData}, (∀ d ∈ ds, GoodD n d) → PyData.canLayAll0 ds = true ∧ PyData.depthAll ds ≤ n
  | [], _ => ⟨rfl, by simp [PyData.depthAll]⟩
  | d :: r, h => by
    obtain ⟨h1, h2⟩ := h d (List.mem_cons_self)
    obtain ⟨r1, r2⟩ := goodAll (ds := r) fun e he => h e (List.mem_cons_of_mem _ he)
    constructor
    · simp [PyData.canLayAll0, h1, r1]
    · simp only [PyData.depthAll]
      omega
theorem good_list {n : Nat} {ds : List PyData} (h : ∀ d ∈ ds, GoodD n d) : GoodD (n + 1) (.list ds) := by
  obtain ⟨a, b⟩ := goodAll h
  exact ⟨by simp [PyData.canLay0, a], by simp only [PyData.depth]; omega⟩
theorem good_tuple {n : Nat} {ds : List PyData} (h : ∀ d ∈ ds, GoodD n d) : GoodD (n + 1) (.tuple ds) := by
  obtain ⟨a, b⟩ := goodAll h
  exact ⟨by simp [PyData.canLay0, a], by simp only [PyData.depth]; omega⟩
theorem good_int {n : Nat} (i : Int) : GoodD n (.int i) := ⟨rfl, by simp [PyData.depth]⟩
theorem good_bool {n : Nat} (i : Bool) : GoodD n (.bool i) := ⟨rfl, by simp [PyData.depth]⟩
theorem good_none {n : Nat} : GoodD n .none := ⟨rfl, by simp [PyData.depth]⟩
/-- a text whose signs are code points -/
def SOk (z : Str) : Prop := ∀ c ∈ z.cps.toList, c < 0x110000
theorem good_str {n : Nat} {z : Str} (h : SOk z) : GoodD n (.str z) := by
  refine ⟨?_, by simp [PyData.depth]⟩
  simp only [PyData.canLay0]
  unfold PyData.strOk
  rw [← Array.all_toList, List.all_eq_true]
  intro c hc
  exact decide_eq_true (h c hc)
theorem dp_map {K : PySem.W.Frag} {H : Hp} {α : Type} {f : α → V} {g : α → PyData} : ∀ {xs : List α}, (∀ x ∈ xs, Dp K H (f x) (g x)) → DpAll K H (xs.map f) (xs.map g)
  | [], _ => .nil
  | x :: r, h => .cons (h x List.mem_cons_self) (dp_map fun y hy => h y (List.mem_cons_of_mem _ hy))
theorem dp_ints {K : PySem.W.Frag} {H : Hp} {a : Addr} {ns : List Int} (h : SqL K H a (ns.map V.int)) : Dp K H (.ref a) (.list (ns.map PyData.int)) := .lst h (dp_map fun x _ => .int x)
theorem dp_strs {K : PySem.W.Frag} {H : Hp} {a : Addr} {ns : List Str} (h : SqL K H a (ns.map V.str)) : Dp K H (.ref a) (.list (ns.map PyData.str)) := .lst h (dp_map fun x _ => .str x)
theorem dp_empty {K : PySem.W.Frag} {H : Hp} {a : Addr} (h : SqL K H a []) : Dp K H (.ref a) (.list []) := .lst h .nil
theorem dp_strsT {K : PySem.W.Frag} {H : Hp} {a : Addr} {ns : List Str} (h : SqT K H a (ns.map V.str)) : Dp K H (.ref a) (.tuple (ns.map PyData.str)) := .tup h (dp_map fun x _ => .str x)
theorem sh_ints (ns : List Int) : SeqAt.shaped (.list (ns.map PyData.int)) = true := PySem.W.ke_shaped_ints ns
theorem sh_empty : SeqAt.shaped (.list []) = true := PySem.W.ke_shaped_ints []
theorem good_strs {ns : List Str} (h : ∀ z ∈ ns, SOk z) : GoodD 1 (.list (ns.map PyData.str)) := good_list (n := 0) fun d hd => by
  obtain ⟨z, hz, rfl⟩ := List.mem_map.mp hd
  exact good_str (h z hz)
theorem good_strsT {ns : List Str} (h : ∀ z ∈ ns, SOk z) : GoodD 1 (.tuple (ns.map PyData.str)) := good_tuple (n := 0) fun d hd => by
  obtain ⟨z, hz, rfl⟩ := List.mem_map.mp hd
  exact good_str (h z hz)
theorem eqv_nil_map {α : Type} (f : α → PyData) (xs : List α) : PyData.eqv (.list (xs.map f)) (.list []) = decide (xs = []) := by
  cases xs with
  | nil => simp [PyData.eqv, PyData.eqvAll]
  | cons x r => simp [PyData.eqv, PyData.eqvAll]
theorem eqvAll_strs : ∀ xs ys : List Str, PyData.eqvAll (xs.map PyData.str) (ys.map PyData.str) = decide (xs = ys)
  | [], [] => by simp [PyData.eqvAll]
  | [], _ :: _ => by simp [PyData.eqvAll]
  | _ :: _, [] => by simp [PyData.eqvAll]
  | x :: r, y :: t => by
    simp only [List.map_cons, PyData.eqvAll, PyData.eqv, eqvAll_strs r t]
    by_cases h : x = y <;> by_cases h' : r = t <;> simp [h, h']
theorem eqv_strs (xs ys : List Str) : PyData.eqv (.list (xs.map PyData.str)) (.list (ys.map PyData.str)) = decide (xs = ys) := by
  simp only [PyData.eqv, eqvAll_strs]
theorem eqv_strsT (xs ys : List Str) : PyData.eqv (.tuple (xs.map PyData.str)) (.tuple (ys.map PyData.str)) = decide (xs = ys) := by
  simp only [PyData.eqv, eqvAll_strs]

/-! ### the drawing state: at st the list of the big cells (at q), the cells (at r), the counter -/
structure DX (H : Hp) (st q r : Addr) (bs cs : List Int) (c : Int) : Prop where
  st' : H st = some (.lst [.ref q, .ref r, .int c])
  q' : H q = some (.lst (bs.map V.int))
  r' : H r = some (.lst (cs.map V.int))
  qr : q ≠ r
  qs : q ≠ st
  rs : r ≠ st
theorem DX.new {H : Hp} {st q r p : Addr} {bs cs : List Int} {c : Int} {o : HO} (D : DX H st q r bs cs c) (h : H p = none) : DX (upd H p o) st q r bs cs c :=
  ⟨(upd_ne (ne_of_none D.st' h)).trans D.st', (upd_ne (ne_of_none D.q' h)).trans D.q', (upd_ne (ne_of_none D.r' h)).trans D.r', D.qr, D.qs, D.rs⟩
theorem DX.count {H : Hp} {st q r : Addr} {bs cs : List Int} {c d : Int} (D : DX H st q r bs cs c) : DX (upd H st (.lst [.ref q, .ref r, .int d])) st q r bs cs d :=
  ⟨upd_same, (upd_ne D.qs).trans D.q', (upd_ne D.rs).trans D.r', D.qr, D.qs, D.rs⟩
theorem DX.swap {H : Hp} {st q r p : Addr} {bs cs ds : List Int} {c : Int} (D : DX H st q r bs cs c) (h : H p = none) : DX (upd (upd H p (.lst (ds.map V.int))) st (.lst [.ref p, .ref r, .int c])) st p r ds cs c := by
  have h1 := ne_of_none D.st' h
  have h2 := ne_of_none D.r' h
  exact ⟨upd_same, (upd_ne h1.symm).trans upd_same, (upd_ne D.rs).trans ((upd_ne h2).trans D.r'), h2.symm, h1.symm, D.rs⟩
theorem DX.own {H : Hp} {st q r : Addr} {bs cs ds : List Int} {c : Int} (D : DX H st q r bs cs c) : DX (upd H q (.lst (ds.map V.int))) st q r ds cs c :=
  ⟨(upd_ne D.qs.symm).trans D.st', upd_same, (upd_ne D.qr.symm).trans D.r', D.qr, D.qs, D.rs⟩
/-- .. its counter at most n -/
def DS (H : Hp) (st : Addr) (n : Nat) : Prop := ∃ (q r : Addr) (bs cs : List Int) (c : Int), DX H st q r bs cs c ∧ (∀ b ∈ bs, 0 ≤ b) ∧ cs ≠ [] ∧ 0 ≤ c ∧ c ≤ n
/-- b holds o, apart from the drawing state -/
def Ap (H : Hp) (st b : Addr) (o : HO) : Prop := H b = some o ∧ b ≠ st ∧ ∀ l, H st = some (.lst l) → V.ref b ∉ l
theorem ap_iff {H : Hp} {st q r b : Addr} {bs cs : List Int} {c : Int} {o : HO} (D : DX H st q r bs cs c) : Ap H st b o ↔ (H b = some o ∧ b ≠ st ∧ b ≠ q ∧ b ≠ r) := by
  constructor
  · rintro ⟨e, n, h⟩
    have := h _ D.st'
    simp only [List.mem_cons, V.ref.injEq, List.not_mem_nil, or_false, not_or] at this
    exact ⟨e, n, this.1, this.2.1⟩
  · rintro ⟨e, n, h1, h2⟩
    refine ⟨e, n, fun l hl => ?_⟩
    rw [D.st'] at hl
    cases hl
    simp only [List.mem_cons, V.ref.injEq, List.not_mem_nil, or_false, not_or]
    exact ⟨h1, h2, fun z => nomatch z⟩
/-- what stands apart from the drawing state stays -/
def Kp (st : Addr) (H H' : Hp) : Prop := ∀ b o, Ap H st b o → Ap H' st b o
theorem Kp.refl (st : Addr) (H : Hp) : Kp st H H := fun _ _ h => h
theorem Kp.trans {st : Addr} {H H1 H2 : Hp} (a : Kp st H H1) (b : Kp st H1 H2) : Kp st H H2 := fun c o h => b c o (a c o h)
theorem Kp.dx {st q r q' r' : Addr} {H H' : Hp} {bs cs bs' cs' : List Int} {c c' : Int} (D : DX H st q r bs cs c) (D' : DX H' st q' r' bs' cs' c') (h : ∀ b o, H b = some o → b ≠ st → b ≠ q → b ≠ r → H' b = some o ∧ b ≠ q' ∧ b ≠ r') : Kp st H H' := fun b o a => by
  obtain ⟨e, n, n1, n2⟩ := (ap_iff D).mp a
  obtain ⟨e', m1, m2⟩ := h b o e n n1 n2
  exact (ap_iff D').mpr ⟨e', n, m1, m2⟩
theorem DX.newK {H : Hp} {st q r p : Addr} {bs cs : List Int} {c : Int} {o : HO} (D : DX H st q r bs cs c) (h : H p = none) : Kp st H (upd H p o) :=
  Kp.dx D (D.new h) fun b u e _ n1 n2 => ⟨(upd_ne (ne_of_none e h)).trans e, n1, n2⟩
theorem DX.ownK {H : Hp} {st q r : Addr} {bs cs ds : List Int} {c : Int} (D : DX H st q r bs cs c) : Kp st H (upd H q (.lst (ds.map V.int))) :=
  Kp.dx D D.own fun b u e _ n1 n2 => ⟨(upd_ne n1).trans e, n1, n2⟩
theorem DX.countK {H : Hp} {st q r : Addr} {bs cs : List Int} {c d : Int} (D : DX H st q r bs cs c) : Kp st H (upd H st (.lst [.ref q, .ref r, .int d])) :=
  Kp.dx D D.count fun b u e n n1 n2 => ⟨(upd_ne n).trans e, n1, n2⟩
theorem DX.swapK {H : Hp} {st q r p : Addr} {bs cs ds : List Int} {c : Int} (D : DX H st q r bs cs c) (h : H p = none) : Kp st H (upd (upd H p (.lst (ds.map V.int))) st (.lst [.ref p, .ref r, .int c])) :=
  Kp.dx D (D.swap h) fun b u e n n1 n2 => ⟨(upd_ne n).trans ((upd_ne (ne_of_none e h)).trans e), ne_of_none e h, n2⟩
theorem DS.new {H : Hp} {st p : Addr} {n : Nat} {o : HO} (D : DS H st n) (h : H p = none) : DS (upd H p o) st n := by
  obtain ⟨q, r, bs, cs, c, d, h1, h2, h3, h4⟩ := D
  exact ⟨q, r, bs, cs, c, d.new h, h1, h2, h3, h4⟩
theorem DS.newK {H : Hp} {st p : Addr} {n : Nat} {o : HO} (D : DS H st n) (h : H p = none) : Kp st H (upd H p o) := by
  obtain ⟨q, r, bs, cs, c, d, h1, h2, h3, h4⟩ := D
  exact d.newK h
theorem DS.mono {H : Hp} {st : Addr} {n m : Nat} (D : DS H st n) (h : n ≤ m) : DS H st m := by
  obtain ⟨q, r, bs, cs, c, d, h1, h2, h3, h4⟩ := D
  exact ⟨q, r, bs, cs, c, d, h1, h2, h3, by omega⟩
/-- a new object stands apart -/
theorem DS.fresh {H : Hp} {st p : Addr} {n : Nat} {o : HO} (D : DS H st n) (h : H p = none) : Ap (upd H p o) st p o := by
  obtain ⟨q, r, bs, cs, c, d, h1, h2, h3, h4⟩ := D
  exact (ap_iff (d.new h)).mpr ⟨upd_same, (ne_of_none d.st' h).symm, (ne_of_none d.q' h).symm, (ne_of_none d.r' h).symm⟩
/-- an object that stands apart is stored to -/
theorem DS.put {H : Hp} {st b : Addr} {n : Nat} {o u : HO} (D : DS H st n) (a : Ap H st b o) : DS (upd H b u) st n := by
  obtain ⟨q, r, bs, cs, c, d, h1, h2, h3, h4⟩ := D
  obtain ⟨e, n1, n2, n3⟩ := (ap_iff d).mp a
  exact ⟨q, r, bs, cs, c, ⟨(upd_ne n1.symm).trans d.st', (upd_ne n2.symm).trans d.q', (upd_ne n3.symm).trans d.r', d.qr, d.qs, d.rs⟩, h1, h2, h3, h4⟩
theorem DS.putA {H : Hp} {st b : Addr} {n : Nat} {o u : HO} (D : DS H st n) (a : Ap H st b o) : Ap (upd H b u) st b u := by
  obtain ⟨q, r, bs, cs, c, d, h1, h2, h3, h4⟩ := D
  obtain ⟨e, n1, n2, n3⟩ := (ap_iff d).mp a
  have d' : DX (upd H b u) st q r bs cs c := ⟨(upd_ne n1.symm).trans d.st', (upd_ne n2.symm).trans d.q', (upd_ne n3.symm).trans d.r', d.qr, d.qs, d.rs⟩
  exact (ap_iff d').mpr ⟨upd_same, n1, n2, n3⟩
theorem Ap.put {H : Hp} {st b p : Addr} {n : Nat} {o u v : HO} (D : DS H st n) (a : Ap H st b o) (h : Ap H st p v) (ne : p ≠ b) : Ap (upd H b u) st p v := by
  obtain ⟨q, r, bs, cs, c, d, h1, h2, h3, h4⟩ := D
  obtain ⟨e, n1, n2, n3⟩ := (ap_iff d).mp a
  obtain ⟨f, m1, m2, m3⟩ := (ap_iff d).mp h
  have d' : DX (upd H b u) st q r bs cs c := ⟨(upd_ne n1.symm).trans d.st', (upd_ne n2.symm).trans d.q', (upd_ne n3.symm).trans d.r', d.qr, d.qs, d.rs⟩
  exact (ap_iff d').mpr ⟨(upd_ne ne).trans f, m1, m2, m3⟩
end Lw

namespace Lw
open PySem PySem.Spec PyProof.Rows L2 Evl
section
variable {K : PySem.W.Frag} {σ : L2.St} {H H' : Hp} {ta tb tc te tl : TE} {t u : TT} {x y z v : V} {r r' : R2}
theorem ev_chain {a b : Bool} (ha : Ev ta σ H x) (hb : Ev tb σ H y) (h1 : RV r x y H (.bl a)) (hc : a = true → Ev tc σ H z) (h2 : a = true → RV r' y z H (.bl b)) : Ev (tChain r r' ta tb tc) σ H (.bl (a && b)) := fun H1 e Q q =>
  ha H1 e _ fun H2 e2 => hb H2 (e.trans e2) _ fun H3 e3 => h1 H3 ((e.trans e2).trans e3) _ fun H4 e4 => ⟨a, rfl, by
    cases a with
    | true =>
      exact hc rfl H4 (((e.trans e2).trans e3).trans e4) _ fun H5 e5 => h2 rfl H5 ((((e.trans e2).trans e3).trans e4).trans e5) Q fun H6 e6 => q H6 ((((e2.trans e3).trans e4).trans e5).trans e6)
    | false => exact q H4 ((e2.trans e3).trans e4)⟩
theorem rc_lenStr {z : Str} (h : z.length ≤ sizeLine) : RC (fun xs H Q => ∃ z, xs = [.str z] ∧ z.length ≤ sizeLine ∧ Q (.int z.length) H) [.str z] H (.int z.length) := fun H1 _ _ q => ⟨z, rfl, h, q H1 (Ex.refl H1)⟩
theorem rc_lenL {p : Addr} {xs : List V} (h : SqL K H p xs) : RC (fun xs H Q => ∃ p ys, xs = [.ref p] ∧ (SqL K H p ys ∨ SqT K H p ys) ∧ Q (.int ys.length) H) [.ref p] H (.int (xs.length : Int)) := fun H1 e _ q => ⟨p, xs, rfl, .inl (ex_l e h), q H1 (Ex.refl H1)⟩
theorem rc_lenT {p : Addr} {xs : List V} (h : SqT K H p xs) : RC (fun xs H Q => ∃ p ys, xs = [.ref p] ∧ (SqL K H p ys ∨ SqT K H p ys) ∧ Q (.int ys.length) H) [.ref p] H (.int (xs.length : Int)) := fun H1 e _ q => ⟨p, xs, rfl, .inr (ex_t e h), q H1 (Ex.refl H1)⟩
theorem rc_int {i : Int} : RC (fun xs H Q => (∃ i, xs = [.int i] ∧ Q (.int i) H) ∨ ∃ k, xs = [.bl k] ∧ Q (.int (if k then 1 else 0)) H) [.int i] H (.int i) := fun H1 _ _ q => .inl ⟨i, rfl, q H1 (Ex.refl H1)⟩
theorem rc_intB {k : Bool} : RC (fun xs H Q => (∃ i, xs = [.int i] ∧ Q (.int i) H) ∨ ∃ k, xs = [.bl k] ∧ Q (.int (if k then 1 else 0)) H) [.bl k] H (.int (if k then 1 else 0)) := fun H1 _ _ q => .inr ⟨k, rfl, q H1 (Ex.refl H1)⟩
theorem rv_sign {c : Nat} {z : Str} : RV (fun x y H Q => ∃ (c : Nat) (z : Str), x = .str ⟨#[c]⟩ ∧ y = .str z ∧ Q (.bl (decide (c ∈ z.cps.toList))) H) (.str ⟨#[c]⟩) (.str z) H (.bl (decide (c ∈ z.cps.toList))) := fun H1 _ _ q => ⟨c, z, rfl, rfl, q H1 (Ex.refl H1)⟩
theorem rv_nsign {c : Nat} {z : Str} : RV (fun x y H Q => ∃ (c : Nat) (z : Str), x = .str ⟨#[c]⟩ ∧ y = .str z ∧ Q (.bl (!decide (c ∈ z.cps.toList))) H) (.str ⟨#[c]⟩) (.str z) H (.bl (!decide (c ∈ z.cps.toList))) := fun H1 _ _ q => ⟨c, z, rfl, rfl, q H1 (Ex.refl H1)⟩
theorem rv_addS {a b : Str} (h : a.length + b.length ≤ sizeLine) : RV (fun x y H Q => ∃ i j, x = .str i ∧ y = .str j ∧ i.length + j.length ≤ sizeLine ∧ Q (.str (i ++ j)) H) (.str a) (.str b) H (.str (a ++ b)) := fun H1 _ _ q => ⟨a, b, rfl, rfl, h, q H1 (Ex.refl H1)⟩
/-- a call one of whose arguments is a new list -/
theorem ev_cbL {r : List V → Hp → VK → Prop} {xs : List V} (h : EvL ta σ H xs) (hr : ∀ p H1, H1 p = some (.lst xs) → Ex H H1 → RC r [.ref p] H1 z) : Ev (tCB r (tCons ta tNil)) σ H z := fun H1 e Q q =>
  h H1 e _ fun p H2 _ e2 hp => hr p H2 hp (e.trans e2) H2 (Ex.refl H2) Q fun H3 e3 => q H3 (e2.trans e3)
theorem rc_all {p : Addr} {bs : List Bool} (h : SqL K H p (bs.map V.bl)) : RC (rAll K) [.ref p] H (.bl (bs.all id)) := fun H1 e _ q => ⟨p, bs, rfl, ex_l e h, q H1 (Ex.refl H1)⟩
theorem rv_eqD {d e : PyData} (hx : ∀ H1, Ex H H1 → Dp K H1 x d) (hy : ∀ H1, Ex H H1 → Dp K H1 y e) (sd : SeqAt.shaped d = true) (se : SeqAt.shaped e = true) : RV (rEqD K) x y H (.bl (PyData.eqv d e)) := fun H1 k _ q => ⟨d, e, hx H1 k, hy H1 k, sd, se, q H1 (Ex.refl H1)⟩
theorem rv_neD {d e : PyData} (hx : ∀ H1, Ex H H1 → Dp K H1 x d) (hy : ∀ H1, Ex H H1 → Dp K H1 y e) (sd : SeqAt.shaped d = true) (se : SeqAt.shaped e = true) : RV (rNeD K) x y H (.bl (!PyData.eqv d e)) := fun H1 k _ q => ⟨d, e, hx H1 k, hy H1 k, sd, se, q H1 (Ex.refl H1)⟩
end
/-! ### comprehensions by lists -/
theorem given_list {α : Type} (p : α → Bool) (g : α → V) (xs : List α) : given xs.length (fun i => (xs[i]?.map p).getD false) (fun i => (xs[i]?.map g).getD .non) = (xs.filter p).map g := by
  have key : ∀ n, n ≤ xs.length → given n (fun i => (xs[i]?.map p).getD false) (fun i => (xs[i]?.map g).getD .non) = ((xs.take n).filter p).map g := by
    intro n
    induction n with
    | zero => intro _; rfl
    | succ n ih =>
      intro hn
      have hx : xs[n]? = some xs[n] := List.getElem?_eq_getElem (by omega)
      cases hp : p xs[n] with
      | true =>
        rw [given_yes (by rw [hx]; exact hp), ih (by omega), List.take_add_one, hx, List.filter_append, List.map_append]
        simp [hp, hx]
      | false =>
        rw [given_no (by rw [hx]; exact hp), ih (by omega), List.take_add_one, hx, List.filter_append, List.map_append]
        simp [hp, hx]
  rw [key _ (Nat.le_refl _), List.take_length]
section
variable {K : PySem.W.Frag} {σ : L2.St} {H H' : Hp} {ta tb tc te tl : TE} {t u : TT} {x y z v : V} {r r' : R2}
theorem cw_it {J : It} {n : Nat} {G : Hp → Prop} {Y : Nat → Hp → V → Hp → Prop} (w : Walk J n G Y) {H : Hp} {j : Nat} {vs : List Nat} (f : Nat → Bool) (v : Nat → V) (val : Nat → V) {Dl : Addr} (hD : H Dl = none) (hn : n ≤ 40000) (hG : ∀ H1, Ex H H1 → G H1)
    (hY : ∀ i H1 x H2, Ex H H1 → i < n → Y i H1 x H2 → H2 = H1 ∧ x = val i)
    (hw : ∀ x, wipe ((wipe σ vs).set j (some x)) vs = wipe σ vs)
    (ht : ∀ (i : Nat), i < n → EvT t ((wipe σ vs).set j (some (val i))) H (f i)) (he : ∀ (i : Nat), i < n → f i = true → Ev te ((wipe σ vs).set j (some (val i))) H (v i)) {Qd : Hp → Prop} (hd : ∀ H1, Cw H f v Dl n H1 → Qd H1) :
    ∃ W : Nat → Nat → Hp → Prop, (∃ m, W 0 m (upd H Dl (.lst []))) ∧ ∀ i m H, W i m H →
      (J.stop i H ∧ Qd H) ∨ (J.go i H ∧ ∃ Nx : Hp → Prop, (∀ H', Nx H' → ∃ m', m' < m ∧ W (i + 1) m' H') ∧ ∀ x H', J.yld i H x H' → (gName j) x (wipe σ vs) H' fun σ2 H2 => wipe σ2 vs = wipe σ vs ∧ t σ2 H2 fun b H3 =>
        if b = true then te σ2 H3 fun y H4 => ∃ acc, H4 Dl = some (.lst acc) ∧ acc.length < sizeLine ∧ Nx (upd H4 Dl (.lst (acc ++ [y]))) else Nx H3) :=
  lc_it w (Cw H f v Dl) ⟨hD, Ex.new hD, upd_same⟩ (fun i H1 _ p => hG H1 p.2.1) (fun i x H1 H2 hi p y => by
    obtain ⟨rfl, rfl⟩ := hY i H1 x H2 p.2.1 hi y
    exact ⟨hw _, cw_turn p (by omega) (ht i hi) (he i hi)⟩) hd
/-- over a text -/
theorem el_lcS {j : Nat} {vs : List Nat} {z : Str} (p : Nat → Bool) (g : Nat → V) (h : Ev tl σ H (.str z)) (hz : z.length ≤ 40000) (hw : ∀ x, wipe ((wipe σ vs).set j (some x)) vs = wipe σ vs)
    (ht : ∀ (c : Nat) H1, Ex H H1 → c ∈ z.cps.toList → EvT t ((wipe σ vs).set j (some (.str ⟨#[c]⟩))) H1 (p c)) (he : ∀ (c : Nat) H1, Ex H H1 → c ∈ z.cps.toList → p c = true → Ev te ((wipe σ vs).set j (some (.str ⟨#[c]⟩))) H1 (g c)) :
    EvL (tLc (iStr tl) (gName j) t te vs) σ H ((z.cps.toList.filter p).map g) := fun H0 e Q q => h H0 e _ fun H1 e1 => ⟨z, rfl, fun Dl hD => by
  have hs : z.cps.size = z.cps.toList.length := by simp
  have hat : ∀ i, i < z.cps.size → ∃ c, z.cps.toList[i]? = some c ∧ z.cps[i]? = some c ∧ c ∈ z.cps.toList := fun i hi => by
    have h1 : z.cps.toList[i]? = some z.cps.toList[i] := List.getElem?_eq_getElem (by omega)
    exact ⟨_, h1, by simpa using h1, List.getElem_mem _⟩
  have gl := given_list p g z.cps.toList
  refine cw_it walk_str (fun i => (z.cps.toList[i]?.map p).getD false) (fun i => (z.cps.toList[i]?.map g).getD .non) (fun i => .str ⟨#[(z.cps.toList[i]?).getD 0]⟩) hD hz (fun _ _ => trivial) (fun i H2 x H3 _ hi y => ?_) hw (fun i hi => ?_) (fun i hi hf => ?_) (fun H2 k => ?_)
  · obtain ⟨rfl, c, hc, rfl⟩ := y
    obtain ⟨c', h1, h2, _⟩ := hat i hi
    rw [hc] at h2
    cases h2
    rw [h1]
    exact ⟨rfl, rfl⟩
  · obtain ⟨c, h1, _, hm⟩ := hat i hi
    rw [h1]
    exact ht c H1 (e.trans e1) hm
  · obtain ⟨c, h1, _, hm⟩ := hat i hi
    rw [h1] at hf ⊢
    exact he c H1 (e.trans e1) hm hf
  · refine q Dl H2 (fresh_back e1 k.1) (e1.trans k.2.1) ?_
    rw [← gl, ← hs]
    exact k.2.2⟩
/-- over a list -/
theorem el_lcM {α : Type} {j : Nat} {vs : List Nat} {a : Addr} {xs : List α} {cv : α → V} (p : α → Bool) (g : α → V) (h : Ev tl σ H (.ref a)) (hx : SqL K H a (xs.map cv)) (hz : xs.length ≤ 40000) (hw : ∀ x, wipe ((wipe σ vs).set j (some x)) vs = wipe σ vs)
    (ht : ∀ (c : α) H1, Ex H H1 → c ∈ xs → EvT t ((wipe σ vs).set j (some (cv c))) H1 (p c)) (he : ∀ (c : α) H1, Ex H H1 → c ∈ xs → p c = true → Ev te ((wipe σ vs).set j (some (cv c))) H1 (g c)) :
    EvL (tLc (iList K tl) (gName j) t te vs) σ H ((xs.filter p).map g) := fun H0 e Q q => h H0 e _ fun H1 e1 => ⟨a, rfl, ⟨_, ex_l (e.trans e1) hx⟩, fun Dl hD => by
  have hat : ∀ i, i < xs.length → ∃ c, xs[i]? = some c ∧ (xs.map cv)[i]? = some (cv c) ∧ c ∈ xs := fun i hi => by
    have h1 : xs[i]? = some xs[i] := List.getElem?_eq_getElem hi
    exact ⟨_, h1, by rw [List.getElem?_map, h1]; rfl, List.getElem_mem _⟩
  have gl := given_list p g xs
  have hl : (xs.map cv).length = xs.length := List.length_map ..
  refine cw_it (n := (xs.map cv).length) (walk_list (xs := xs.map cv)) (fun i => (xs[i]?.map p).getD false) (fun i => (xs[i]?.map g).getD .non) (fun i => ((xs.map cv)[i]?).getD .non) hD (by omega) (fun H2 e2 => ex_l ((e.trans e1).trans e2) hx) (fun i H2 x H3 _ hi y => ?_) hw (fun i hi => ?_) (fun i hi hf => ?_) (fun H2 k => ?_)
  · obtain ⟨rfl, hc⟩ := y
    rw [hc]
    exact ⟨rfl, rfl⟩
  · obtain ⟨c, h1, h2, hm⟩ := hat i (by omega)
    rw [h1, h2]
    exact ht c H1 (e.trans e1) hm
  · obtain ⟨c, h1, h2, hm⟩ := hat i (by omega)
    rw [h1] at hf ⊢
    rw [h2]
    exact he c H1 (e.trans e1) hm hf
  · refine q Dl H2 (fresh_back e1 k.1) (e1.trans k.2.1) ?_
    rw [← gl, ← hl]
    exact k.2.2⟩
/-- over a tuple -/
theorem el_lcT {α : Type} {j : Nat} {vs : List Nat} {a : Addr} {xs : List α} {cv : α → V} (p : α → Bool) (g : α → V) (h : Ev tl σ H (.ref a)) (hx : SqT K H a (xs.map cv)) (hz : xs.length ≤ 40000) (hw : ∀ x, wipe ((wipe σ vs).set j (some x)) vs = wipe σ vs)
    (ht : ∀ (c : α) H1, Ex H H1 → c ∈ xs → EvT t ((wipe σ vs).set j (some (cv c))) H1 (p c)) (he : ∀ (c : α) H1, Ex H H1 → c ∈ xs → p c = true → Ev te ((wipe σ vs).set j (some (cv c))) H1 (g c)) :
    EvL (tLc (iTup K tl) (gName j) t te vs) σ H ((xs.filter p).map g) := fun H0 e Q q => h H0 e _ fun H1 e1 => ⟨a, rfl, ⟨_, ex_t (e.trans e1) hx⟩, fun Dl hD => by
  have hat : ∀ i, i < xs.length → ∃ c, xs[i]? = some c ∧ (xs.map cv)[i]? = some (cv c) ∧ c ∈ xs := fun i hi => by
    have h1 : xs[i]? = some xs[i] := List.getElem?_eq_getElem hi
    exact ⟨_, h1, by rw [List.getElem?_map, h1]; rfl, List.getElem_mem _⟩
  have gl := given_list p g xs
  have hl : (xs.map cv).length = xs.length := List.length_map ..
  refine cw_it (n := (xs.map cv).length) (walk_tup (xs := xs.map cv)) (fun i => (xs[i]?.map p).getD false) (fun i => (xs[i]?.map g).getD .non) (fun i => ((xs.map cv)[i]?).getD .non) hD (by omega) (fun H2 e2 => ex_t ((e.trans e1).trans e2) hx) (fun i H2 x H3 _ hi y => ?_) hw (fun i hi => ?_) (fun i hi hf => ?_) (fun H2 k => ?_)
  · obtain ⟨rfl, hc⟩ := y
    rw [hc]
    exact ⟨rfl, rfl⟩
  · obtain ⟨c, h1, h2, hm⟩ := hat i (by omega)
    rw [h1, h2]
    exact ht c H1 (e.trans e1) hm
  · obtain ⟨c, h1, h2, hm⟩ := hat i (by omega)
    rw [h1] at hf ⊢
    rw [h2]
    exact he c H1 (e.trans e1) hm hf
  · refine q Dl H2 (fresh_back e1 k.1) (e1.trans k.2.1) ?_
    rw [← gl, ← hl]
    exact k.2.2⟩
theorem et_yes : EvT tYes σ H true := fun H1 _ _ q => q H1 (Ex.refl H1)
end
end Lw

namespace Lw
open PySem PySem.Spec PyProof.Rows L2
section
variable {X : Cx} {CX : CXT} {E : XK} {k : Nat} {f : Addr} {fd : FuncData} {ps ks : List Str} {sp : Sp} {x : Str} {kws : List Keyword} {tk : TA} {p pos : Pos} {g : List Value → List Value → List Value} {gV : List V → List V → List V}
/-- f(k = v, ..) -/
theorem pe_callK0 (F : FnOk X.prog X.w X.K X.mg X.base CX k f fd ps sp) (hr : Room k X.A) (hg : Gl X x) (hm : X.mg x = some (.ref f)) (hk : PySem.W.keepIn X.K (.ref f) = true) (hb : KBinds X.K fd ps ks g gV) (hx : Passes CX X E)
    (hkw : PK X kws tk) (hall : (backToKw pos (keywordEach kws X.env)).all (·.1.isSome) = true := by rfl) (hks : (backToKw pos (keywordEach kws X.env)).filterMap (·.1) = ks := by rfl)
    (hdb : (x == ("__debug__" : Str)) = false := by decide)
    (hpl : ((backTo pos (starEach [] X.env)).any (·.1) || (backToKw pos (keywordEach kws X.env)).any (·.1.isNone)) = false := by rfl) :
    PE X (.Call (.Name x p) [] kws pos) (tCallK sp gV E tNil tk) := by
  refine ⟨fun pins s σ H Q I h => ?_⟩
  refine wpAny_Call_Name_kw (ld_glob I hg hm ?_ hdb)
  refine PySem.W.callWith_KW0 (h₀ := X.base) I.ok.mod.kin hk hall ?_ hpl
  refine thn (hkw.run pos pins s σ H _ I h) fun ws s2 ⟨zs, H2, I2, rz, q2⟩ => ⟨I2.kIn, ?_⟩
  rw [hks]
  exact run_fnk (us := []) (vs := []) F hr hb hx I2 .nil rz q2
end
section
variable {X : Cx}
def revS (z : Str) : Str := ⟨z.cps.toList.reverse.toArray⟩
theorem revS_len (z : Str) : (revS z).length = z.length := by simp [revS, Str.length]
def tRevS (te : TE) : TE := fun σ H Q => te σ H fun x H1 => ∃ z, x = .str z ∧ z.length ≤ sizeLine ∧ Q (.str (revS z)) H1
theorem pe_revS {e : Expr} {te : TE} {k : Nat} {p1 p2 p3 pos : Pos} (he : PE X e te) : PE X (.Subscript e (.Slice none none (some (.UnaryOp .USub (.Constant (.int 1) k p1) p2)) p3) pos) (tRevS te) := by
  refine ⟨fun pins s σ H Q I h => ?_⟩
  refine Subscript_ (thn (he.run pins s σ H _ I h) fun v s1 ⟨x, H1, I1, r1, q1⟩ => ?_)
  obtain ⟨z, ex, hz, q⟩ := q1
  subst ex
  obtain ⟨t, rfl⟩ := r1
  have hst : PO X (some (.UnaryOp .USub (.Constant (.int 1) k p1) p2)) (tPart (tUn (rU fun i => .int (-i)) (tC (.int 1)))) := po_some (pe_un un_neg pe_int)
  refine wpAny_Slice (thn (po_none.run pins s1 σ H1 (fun o H2 => o = none ∧ H2 = H1) I1 ⟨rfl, rfl⟩) fun vl s2 ⟨l, H2, I2, pl, el, e2⟩ => ?_)
  subst el e2
  refine thn (po_none.run pins s2 σ H2 (fun o H3 => o = none ∧ H3 = H2) I2 ⟨rfl, rfl⟩) fun vu s3 ⟨u, H3, I3, pu, eu, e3⟩ => ?_
  subst eu e3
  refine thn (hst.run pins s3 σ H3 (fun o H4 => o = some (-1) ∧ H4 = H3) I3 ⟨1, rfl, -1, rfl, rfl, rfl⟩) fun vs s4 ⟨o, H4, I4, ps, eo, e4⟩ => ?_
  subst eo e4
  have I5 : Inv X pins σ H4 { s4 with heap := s4.heap.push { cls := .type "slice", data := .fields #[vl, vu, vs] } } := I4.kept (t' := s4.toks) fun b ob q => Heap.get?_push_of_some _ q
  cases pl
  cases pu
  cases ps with
  | int _ tk =>
    show wpAny (model X.prog X.w) X.A (subscriptTail e (.Slice none none (some (.UnaryOp .USub (.Constant (.int 1) k p1) p2)) p3) (.str z t) (.ref s4.heap.objs.size)) (EP X pins σ Q) X.xe { s4 with heap := s4.heap.push { cls := .type "slice", data := .fields #[.none, .none, .int (-1) tk] } }
    refine tail_any (ops := [.str z t, .ref s4.heap.objs.size]) (typeIs_str _ _ _) F.slot_str_getitem.lookup ?_ (by with_unfolding_all rfl)
    refine wpAny_getItem_str_slice (l := none) (u := none) (st := some (-1, tk)) ⟨_, Heap.get?_push_size _ rfl, rfl, rfl⟩ rfl ?_
    have hm : sliceMade z t none none (some (-1, tk)) = .str (revS z) := by
      unfold sliceMade
      rw [if_neg (by simp)]
      show Made.str ⟨((Builtin.Str.strSliceIndices none none (-1) z.length).filterMap (z.cps[·]?)).toArray⟩ = Made.str (revS z)
      rw [picked_rev, PySem.W.krv_range, List.filterMap_reverse]
      show Made.str ⟨(((List.range z.cps.size).filterMap (z.cps[·]?)).reverse).toArray⟩ = _
      rw [PySem.W.krv_all]
      rfl
    rw [hm]
    refine ⟨by rw [revS_len]; exact hz, .str _, H4, I5.tok _, ⟨_, rfl⟩, q⟩
end
end Lw
namespace Lw
open PySem PySem.Spec PyProof.Rows L2
theorem joinL_nil : ∀ ps : List (List Nat), TL.joinL [] ps = ps.flatten
  | [] => rfl
  | [p] => by simp [TL.joinL]
  | p :: q :: r => by
    show p ++ ([] ++ TL.joinL [] (q :: r)) = _
    rw [joinL_nil (q :: r)]
    simp
theorem join0 (zs : List Str) : (Txt.join "" zs).cps.toList = (zs.map fun z => z.cps.toList).flatten := by
  rw [TL.join_eq]
  show TL.tl (Str.join "" zs) = _
  rw [TL.tl_join, show TL.tl ("" : Str) = [] by decide +kernel]
  exact joinL_nil _
theorem len_tl (z : Str) : z.length = z.cps.toList.length := by simp [Str.length]
theorem sok_append {a b : Str} (ha : SOk a) (hb : SOk b) : SOk (a ++ b) := by
  intro c hc
  rw [show (a ++ b).cps.toList = a.cps.toList ++ b.cps.toList from TL.tl_append a b] at hc
  rcases List.mem_append.mp hc with h | h
  · exact ha c h
  · exact hb c h
theorem len_append (a b : Str) : (a ++ b).length = a.length + b.length := by
  rw [len_tl, len_tl, len_tl, show (a ++ b).cps.toList = a.cps.toList ++ b.cps.toList from TL.tl_append a b, List.length_append]
theorem sok_rev {a : Str} (ha : SOk a) : SOk (revS a) := by
  intro c hc
  refine ha c ?_
  simpa [revS] using hc
/-- signs: texts of one code -/
def Sg (z : Str) : Prop := z.length = 1 ∧ SOk z
theorem join_sg {zs : List Str} (h : ∀ z ∈ zs, Sg z) : (Txt.join "" zs).length = zs.length ∧ SOk (Txt.join "" zs) := by
  rw [len_tl]
  have e := join0 zs
  constructor
  · rw [e]
    clear e
    induction zs with
    | nil => rfl
    | cons z r ih =>
      rw [List.map_cons, List.flatten_cons, List.length_append, ih fun y hy => h y (List.mem_cons_of_mem _ hy), ← len_tl, (h z List.mem_cons_self).1, List.length_cons]
      omega
  · intro c hc
    rw [e] at hc
    obtain ⟨l, hl, hc⟩ := List.mem_flatten.mp hc
    obtain ⟨z, hz, rfl⟩ := List.mem_map.mp hl
    exact (h z hz).2 c hc
theorem sg_one {c : Nat} {z : Str} (h : SOk z) (hc : c ∈ z.cps.toList) : Sg ⟨#[c]⟩ := ⟨rfl, fun d hd => by
  have : d = c := by simpa using hd
  rw [this]
  exact h c hc⟩
theorem atI_some {α : Type} {xs : List α} {i : Int} (h0 : 0 ≤ i) (h1 : i < xs.length) : ∃ v, atI xs i = some v ∧ v ∈ xs := by
  obtain ⟨j, rfl⟩ : ∃ j : Nat, i = (j : Int) := ⟨i.toNat, by omega⟩
  have hj : j < xs.length := by omega
  exact ⟨xs[j], atI_nat (List.getElem?_eq_getElem hj), List.getElem_mem _⟩
theorem ixN_some {n : Nat} {i : Int} (h0 : 0 ≤ i) (h1 : i < n) : ∃ j, ixN n i = some j ∧ j < n := by
  obtain ⟨j, rfl⟩ : ∃ j : Nat, i = (j : Int) := ⟨i.toNat, by omega⟩
  exact ⟨j, Evl.ixN_nat (by omega), by omega⟩
end Lw

namespace Lw
open PySem PySem.Spec PyProof.Rows L2
/-! ### names -/
def LET : Str := "abcdefghijklmnopqrstuvwxyz"
def DIG : Str := "0123456789"
/-- whether a code is a letter's, a figure's -/
def isL (c : Nat) : Bool := decide (c ∈ LET.cps.toList)
def isD (c : Nat) : Bool := decide (c ∈ DIG.cps.toList)
/-- the names -/
def vnL : List Nat → Bool
  | [] => false
  | c :: r => decide ((c :: r).length ≤ 6) && isL c && (c :: r).all fun d => isL d || isD d
theorem vnL_cons (c : Nat) (r : List Nat) : vnL (c :: r) = (decide ((c :: r).length ≤ 6) && isL c && (c :: r).all fun d => isL d || isD d) := rfl
def vn (z : Str) : Bool := vnL z.cps.toList
theorem cps_at {z : Str} {i c : Nat} (h : z.cps[i]? = some c) : z.cps.toList[i]? = some c := by simpa using h
theorem take_all {α : Type} {xs : List α} {p : α → Bool} {i : Nat} {c : α} (h : xs[i]? = some c) : (xs.take (i + 1)).all p = ((xs.take i).all p && p c) := by
  rw [List.take_add_one, h]
  simp
theorem take_map {α β : Type} {xs : List α} {f : α → β} {i : Nat} {c : α} (h : xs[i]? = some c) : (xs.take (i + 1)).map f = (xs.take i).map f ++ [f c] := by
  rw [List.take_add_one, h, List.map_append]
  rfl
def sp_vn : Sp := fun vs H Q _ => ∃ (z : Str), vs = [.str z] ∧ z.length ≤ 1000 ∧ SOk z ∧ ∀ H', Same H H' → Q (.bl (vn z)) H'
/-- the letters and the figures by their codes -/
theorem let_codes : LET.cps.toList = (List.range 26).map (97 + ·) := by decide +kernel
theorem dig_codes : DIG.cps.toList = (List.range 10).map (48 + ·) := by decide +kernel
theorem isL_iff {c : Nat} : isL c = true ↔ 97 ≤ c ∧ c < 123 := by
  unfold isL
  rw [decide_eq_true_iff, let_codes, List.mem_map]
  constructor
  · rintro ⟨i, hi, rfl⟩
    have := List.mem_range.mp hi
    omega
  · rintro ⟨h1, h2⟩
    exact ⟨c - 97, List.mem_range.mpr (by omega), by omega⟩
theorem isD_iff {c : Nat} : isD c = true ↔ 48 ≤ c ∧ c < 58 := by
  unfold isD
  rw [decide_eq_true_iff, dig_codes, List.mem_map]
  constructor
  · rintro ⟨i, hi, rfl⟩
    have := List.mem_range.mp hi
    omega
  · rintro ⟨h1, h2⟩
    exact ⟨c - 48, List.mem_range.mpr (by omega), by omega⟩
/-- a code that a name may have -/
def isN (c : Nat) : Bool := isL c || isD c
theorem isN_lt {c : Nat} (h : isN c = true) : c < 123 := by
  unfold isN at h
  rw [Bool.or_eq_true, isL_iff, isD_iff] at h
  omega
theorem vnL_of {c : Nat} {r : List Nat} (hl : r.length ≤ 5) (hc : isL c = true) (hr : ∀ d ∈ r, isN d = true) : vnL (c :: r) = true := by
  rw [vnL_cons, hc, decide_eq_true (by simp only [List.length_cons]; omega), Bool.true_and, Bool.true_and, List.all_eq_true]
  intro d hd
  rcases List.mem_cons.mp hd with rfl | hd
  · rw [hc]
    rfl
  · exact hr d hd
theorem vn_parts {z : Str} (h : vn z = true) : 1 ≤ z.length ∧ z.length ≤ 6 ∧ ∀ c ∈ z.cps.toList, isN c = true := by
  unfold vn at h
  rw [len_tl]
  cases hc : z.cps.toList with
  | nil =>
    rw [hc] at h
    cases h
  | cons c r =>
    rw [hc, vnL_cons, Bool.and_eq_true, Bool.and_eq_true, decide_eq_true_iff, List.all_eq_true] at h
    exact ⟨by simp, h.1.1, h.2⟩
theorem vn_sok {z : Str} (h : vn z = true) : SOk z := fun c hc => by
  have := isN_lt ((vn_parts h).2.2 c hc)
  omega
end Lw

namespace Lw
open PySem PySem.Spec PyProof.Rows L2
def sp_draw : Sp := fun vs H Q _ => ∃ (st : Addr) (size : Int) (n : Nat), vs = [.ref st, .int size] ∧ DS H st n ∧ n ≤ 1000000000 ∧ 0 < size ∧ size < 1000000000 ∧
  ∀ (d : Int) (H' : Hp), 0 ≤ d → d < size → DS H' st (n + 1) → Kp st H H' → Q (.int d) H'
def sp_start (K : PySem.W.Frag) : Sp := fun vs H Q _ => ∃ (a : Addr) (ns : List Int), vs = [.ref a] ∧ SqL K H a (ns.map V.int) ∧ ns.length ≤ 63 ∧
  ∀ (st : Addr) (H' : Hp), DS H' st 0 → (∀ b o, H b = some o → Ap H' st b o) → Q (.ref st) H'
theorem DS.ex {H H' : Hp} {st : Addr} {n : Nat} (D : DS H st n) (e : Evl.Ex H H') : DS H' st n := by
  obtain ⟨q, r, bs, cs, c, d, h1, h2, h3, h4⟩ := D
  exact ⟨q, r, bs, cs, c, ⟨e _ _ d.st', e _ _ d.q', e _ _ d.r', d.qr, d.qs, d.rs⟩, h1, h2, h3, h4⟩
theorem DS.exK {H H' : Hp} {st : Addr} {n : Nat} (D : DS H st n) (e : Evl.Ex H H') : Kp st H H' := by
  obtain ⟨q, r, bs, cs, c, d, h1, h2, h3, h4⟩ := D
  exact Kp.dx d ⟨e _ _ d.st', e _ _ d.q', e _ _ d.r', d.qr, d.qs, d.rs⟩ fun b o x _ y z => ⟨e _ _ x, y, z⟩
/-- a list made anew since H1, stored to, keeps what stood apart in H1 -/
theorem Kp.put {H1 H : Hp} {st b : Addr} {n : Nat} {o u : HO} (k : Kp st H1 H) (hb : H1 b = none) (D : DS H st n) (a : Ap H st b o) : Kp st H1 (upd H b u) := fun c v h => Ap.put D a (k c v h) (ne_of_none h.1 hb)
theorem DS.freshB {H : Hp} {st p : Addr} {n : Nat} {o : HO} (D : DS H st n) (h : Ap H st p o) {H' : Hp} (e : Evl.Ex H H') : Ap H' st p o := D.exK e _ _ h
/-- [signs[draw(size)] for k in range(n)] -/
theorem lc_signs {st D : Addr} {m n j i0 iz : Nat} {size lo : Int} {z : Str} {σ : L2.St} {vs : List Nat} {Qd : Hp → Prop} {H1 : Hp} (hst : ∀ x, ((wipe σ vs).set j (some x))[i0]? = some (some (.ref st))) (hz : ∀ x, ((wipe σ vs).set j (some x))[iz]? = some (some (.str z)))
    (hw : ∀ x, wipe ((wipe σ vs).set j (some x)) vs = wipe σ vs) (hs0 : 0 < size) (hs1 : size ≤ z.length) (zl : z.length ≤ 1000) (hm : m + n ≤ 1000000000) (hn : n ≤ 1000) (D0 : DS H1 st m) (hD : H1 D = none)
    (hd : ∀ (H' : Hp) (zs : List Str), DS H' st (m + n) → Kp st H1 H' → Ap H' st D (.lst (zs.map V.str)) → zs.length = n → (∀ y ∈ zs, ∃ c k : Nat, y = ⟨#[c]⟩ ∧ (k : Int) < size ∧ z.cps.toList[k]? = some c) → Qd H') :
    ∃ W : Nat → Nat → Hp → Prop, (∃ m, W 0 m (upd H1 D (.lst []))) ∧ ∀ i m H, W i m H →
      ((Itr lo n).stop i H ∧ Qd H) ∨ ((Itr lo n).go i H ∧ ∃ Nx : Hp → Prop, (∀ H', Nx H' → ∃ m', m' < m ∧ W (i + 1) m' H') ∧ ∀ x H', (Itr lo n).yld i H x H' → (gName j) x (wipe σ vs) H' fun σ2 H2 => wipe σ2 vs = wipe σ vs ∧ tYes σ2 H2 fun b H3 =>
        if b = true then (tOp rIxS (tVar iz) (tCall sp_draw [] E0 (tCons (tVar i0) (tCons (tC (.int size)) tNil)))) σ2 H3 fun y H4 => ∃ acc, H4 D = some (.lst acc) ∧ acc.length < sizeLine ∧ Nx (upd H4 D (.lst (acc ++ [y]))) else Nx H3) := by
  have zl2 : z.length ≤ sizeLine := Nat.le_of_lt (small1000 zl)
  refine lc_range (lo := lo) (n := n) (fun i H' => ∃ zs : List Str, DS H' st (m + i) ∧ Kp st H1 H' ∧ Ap H' st D (.lst (zs.map V.str)) ∧ zs.length = i ∧ ∀ y ∈ zs, ∃ c k : Nat, y = ⟨#[c]⟩ ∧ (k : Int) < size ∧ z.cps.toList[k]? = some c) ⟨[], D0.new hD, D0.newK hD, D0.fresh hD, rfl, fun _ h => by simp at h⟩ (fun i H' hi ⟨zs, DD, kp, ap, hl, hy⟩ => ?_) (fun H' ⟨zs, DD, kp, ap, hl, hy⟩ => hd H' zs DD kp ap hl hy)
  refine ⟨hw _, .str z, hz _, .ref st, hst _, st, size, m + i, rfl, DD, by omega, hs0, by omega, fun d H2 d0 d1 D' kp2 => ?_⟩
  obtain ⟨k, rfl⟩ : ∃ k : Nat, d = (k : Int) := ⟨d.toNat, by omega⟩
  have hk : k < z.cps.toList.length := by
    rw [← len_tl]
    omega
  have ap' := kp2 _ _ ap
  refine ⟨z, (k : Int), z.cps.toList[k], rfl, rfl, zl2, atI_nat (List.getElem?_eq_getElem hk), _, ap'.1, ?_, zs ++ [⟨#[z.cps.toList[k]]⟩], D'.put ap', (kp.trans kp2).put hD D' ap', ?_, ?_, ?_⟩
  · rw [List.length_map]
    exact small1000 (by omega)
  · rw [List.map_append]
    exact D'.putA ap'
  · rw [List.length_append, hl]
    rfl
  · intro y hy'
    rcases List.mem_append.mp hy' with h | h
    · exact hy y h
    · rw [List.mem_singleton.mp h]
      exact ⟨_, k, rfl, d1, List.getElem?_eq_getElem hk⟩
/-- the letters, then the figures -/
def SG36 : Str := "abcdefghijklmnopqrstuvwxyz0123456789"
theorem sg36_codes : SG36.cps.toList = (List.range 26).map (97 + ·) ++ (List.range 10).map (48 + ·) := by decide +kernel
theorem sg36_len : SG36.length = 36 := by decide +kernel
theorem sg36_at {k c : Nat} (h : SG36.cps.toList[k]? = some c) : isN c = true ∧ (k < 26 → c = 97 + k ∧ isL c = true) := by
  rw [sg36_codes] at h
  by_cases hk : k < 26
  · rw [List.getElem?_append_left (by simpa using hk), List.getElem?_map, List.getElem?_range hk] at h
    have : c = 97 + k := (Option.some.inj h).symm
    have hl : isL c = true := isL_iff.mpr (by omega)
    exact ⟨by unfold isN; rw [hl]; rfl, fun _ => ⟨this, hl⟩⟩
  · have h2 : k - 26 < 10 := by
      have := (List.getElem?_eq_some_iff.mp h).1
      simp at this
      omega
    rw [List.getElem?_append_right (by simpa using hk), List.getElem?_map, List.length_map, List.length_range, List.getElem?_range h2] at h
    have : c = 48 + (k - 26) := (Option.some.inj h).symm
    have hd : isD c = true := isD_iff.mpr (by omega)
    exact ⟨by unfold isN; rw [hd]; exact Bool.or_true _, fun h => absurd h hk⟩
/-- figures of small numbers -/
theorem num_codes : ∀ i : Nat, i < 100 → (∀ c ∈ (Str.ofString (toString (i : Int))).cps.toList, isD c = true) ∧ (Str.ofString (toString (i : Int))).cps.toList.length ≤ 2 := by
  have : ((List.range 100).all fun i => ((Str.ofString (toString (i : Int))).cps.toList.all isD) && decide ((Str.ofString (toString (i : Int))).cps.toList.length ≤ 2)) = true := by decide +kernel
  intro i hi
  have h := List.all_eq_true.mp this i (List.mem_range.mpr hi)
  rw [Bool.and_eq_true, List.all_eq_true, decide_eq_true_iff] at h
  exact h
theorem num_inj : ∀ i j : Nat, i < 100 → j < 100 → (Str.ofString (toString (i : Int))).cps.toList = (Str.ofString (toString (j : Int))).cps.toList → i = j := by
  have : ((List.range 100).all fun i => (List.range 100).all fun j => decide ((Str.ofString (toString (i : Int))).cps.toList = (Str.ofString (toString (j : Int))).cps.toList → i = j)) = true := by decide +kernel
  intro i j hi hj
  have h := List.all_eq_true.mp (List.all_eq_true.mp this i (List.mem_range.mpr hi)) j (List.mem_range.mpr hj)
  exact of_decide_eq_true h
theorem app_codes (a b : Str) : (a ++ b).cps.toList = a.cps.toList ++ b.cps.toList := TL.tl_append a b
theorem str_ext {a b : Str} (h : a.cps.toList = b.cps.toList) : a = b := TL.ext_tl h
theorem vn_of {z : Str} {c : Nat} {r : List Nat} (e : z.cps.toList = c :: r) (hl : r.length ≤ 5) (hc : isL c = true) (hr : ∀ d ∈ r, isN d = true) : vn z = true := by
  unfold vn
  rw [e]
  exact vnL_of hl hc hr
/-- a row of n different names by its turns -/
theorem row_names {n : Nat} {f : Nat → Str} (hv : ∀ k, k < n → vn (f k) = true) (hi : ∀ j k, j < k → k < n → f j ≠ f k) : ((List.range n).map f).length = n ∧ (∀ z ∈ (List.range n).map f, vn z = true) ∧ ((List.range n).map f).Nodup := by
  refine ⟨by simp, fun z hz => ?_, ?_⟩
  · obtain ⟨k, hk, rfl⟩ := List.mem_map.mp hz
    exact hv k (List.mem_range.mp hk)
  · rw [List.nodup_iff_pairwise_ne, List.pairwise_map]
    refine List.Pairwise.imp_of_mem ?_ (List.pairwise_lt_range)
    intro a b ha hb hab
    exact hi a b hab (List.mem_range.mp hb)
end Lw

namespace Lw
open PySem PySem.Spec PyProof.Rows L2 Evl
theorem cutS_to (z : Str) (k : Nat) : (cutS z none (some (k : Int))).cps.toList = z.cps.toList.take k := by
  show (z.cps.toList.drop (HT.sIx z.length 0 none)).take (HT.sIx z.length z.length (some (k : Int)) - HT.sIx z.length 0 none) = _
  rw [HT.sIx_none, HT.sIx_nat, List.drop_zero, Nat.sub_zero, len_tl, ← List.take_take, List.take_length]
theorem cutS_from (z : Str) (k : Nat) : (cutS z (some (k : Int)) none).cps.toList = z.cps.toList.drop k := by
  show (z.cps.toList.drop (HT.sIx z.length 0 (some (k : Int)))).take (HT.sIx z.length z.length none - HT.sIx z.length 0 (some (k : Int))) = _
  rw [HT.sIx_none, HT.sIx_nat, len_tl]
  by_cases h : k ≤ z.cps.toList.length
  · rw [Nat.min_eq_left h]
    exact List.take_of_length_le (by rw [List.length_drop]; exact Nat.le_refl _)
  · rw [Nat.min_eq_right (by omega), List.drop_of_length_le (Nat.le_refl _), List.drop_of_length_le (by omega)]
    simp
section
variable {K : PySem.W.Frag} {σ : L2.St} {H H' : Hp} {ta tb tc te tl : TE} {t u : TT} {x y z v : V} {r r' : R2}
theorem rc_strI {i : Int} (h : i.natAbs.log2 < 1920) : RC (fun xs H Q => ∃ i, xs = [.int i] ∧ i.natAbs.log2 < 1920 ∧ Q (.str (toString i)) H) [.int i] H (.str (toString i)) := fun H1 _ _ q => ⟨i, rfl, h, q H1 (Ex.refl H1)⟩
theorem ev_slS {tl th : TO} {z : Str} {lo hi : Option Int} (h : Ev te σ H (.str z)) (h1 : EvO tl σ H lo) (h2 : EvO th σ H hi) (hz : z.length ≤ sizeLine) : Ev (tSl rSlS te tl th) σ H (.str (cutS z lo hi)) := fun H1 e _ q =>
  h H1 e _ fun H2 e2 => h1 H2 (e.trans e2) _ fun H3 e3 => h2 H3 ((e.trans e2).trans e3) _ fun H4 e4 => ⟨z, rfl, hz, q H4 ((e2.trans e3).trans e4)⟩
/-- an item of a new list -/
theorem ev_ixNew {xs : List V} {i : Int} (ha : EvL ta σ H xs) (hb : Ev tb σ H (.int i)) (h : atI xs i = some v) : Ev (tOp (rIxL K) ta tb) σ H v :=
  ev_opL1 ha (fun _ e => hb.mono e) fun p H1 hp _ => rv_ixL (.inl (.inl hp)) h
end
/-- [elt for k in range(n)], without a test -/
theorem given_all (n : Nat) (v : Nat → V) : given n (fun _ => true) v = (List.range n).map v := by
  unfold given
  rw [List.filter_eq_self.mpr fun _ _ => rfl]
theorem stem_ok {zs : List Str} (h : ∀ y ∈ zs, ∃ c k : Nat, y = ⟨#[c]⟩ ∧ (k : Int) < 36 ∧ SG36.cps.toList[k]? = some c) : (Txt.join "" zs).cps.toList.length = zs.length ∧ (∀ c ∈ (Txt.join "" zs).cps.toList, isN c = true) ∧ (zs.map (·.length)).sum = zs.length := by
  rw [join0]
  induction zs with
  | nil => exact ⟨rfl, fun _ h => by simp at h, rfl⟩
  | cons y r ih =>
    obtain ⟨i1, i2, i3⟩ := ih fun x hx => h x (List.mem_cons_of_mem _ hx)
    obtain ⟨c, k, rfl, hk, hc⟩ := h y List.mem_cons_self
    refine ⟨?_, fun d hd => ?_, ?_⟩
    · rw [List.map_cons, List.flatten_cons, List.length_append, i1, List.length_cons]
      show 1 + r.length = r.length + 1
      omega
    · rw [List.map_cons, List.flatten_cons, List.mem_append] at hd
      rcases hd with hd | hd
      · have : d = c := by simpa using hd
        rw [this]
        exact (sg36_at hc).1
      · exact i2 d hd
    · rw [List.map_cons, List.sum_cons, i3, List.length_cons]
      show 1 + r.length = r.length + 1
      omega
/-- what a pure piece has made stands apart -/
theorem DS.exNew {H H' : Hp} {st p : Addr} {n : Nat} {o : HO} (D : DS H st n) (e : Ex H H') (h : H p = none) (h' : H' p = some o) : Ap H' st p o := by
  obtain ⟨q, r, bs, cs, c, d, h1, h2, h3, h4⟩ := D
  have d' : DX H' st q r bs cs c := ⟨e _ _ d.st', e _ _ d.q', e _ _ d.r', d.qr, d.qs, d.rs⟩
  exact (ap_iff d').mpr ⟨h', (ne_of_none d.st' h).symm, (ne_of_none d.q' h).symm, (ne_of_none d.r' h).symm⟩
def sp_names : Sp := fun vs H Q _ => ∃ (st : Addr) (count : Int) (n : Nat), vs = [.ref st, .int count] ∧ DS H st n ∧ n ≤ 900000000 ∧ 0 ≤ count ∧ count ≤ 9 ∧
  ∀ (p : Addr) (ws : List Str) (H' : Hp), DS H' st (n + 20) → Kp st H H' → (∀ b o, Ap H st b o → b ≠ p) → Ap H' st p (.lst (ws.map V.str)) → ws.length = count.toNat → (∀ z ∈ ws, vn z = true) → ws.Nodup → Q (.ref p) H'
end Lw

namespace Lw
open PySem PySem.Spec PyProof.Rows L2
/-! ### several except clauses, each with a name -/
abbrev Suite := Addr → Value → Option Addr → TS
/-- the suite's ends: the clause's name is gone behind it -/
def gone (i : Nat) (D : Ends) : Ends := { nx := fun σ' H' => D.nx (σ'.set i none) H', rt := D.rt, bk := fun σ' H' => D.bk (σ'.set i none) H', ct := fun σ' H' => D.ct (σ'.set i none) H' }
def wNamed (K : PySem.W.Frag) (Wout : WX) (D : Ends) : List (Value × Nat × Suite) → WX
  | [] => Wout
  | (c, i, ts) :: r => fun cls d σ H => ∃ b, PySem.W.exmOne K cls c = some b ∧ (b = true → ∀ a, H a = none → ts a cls d (gone i D) (σ.set i (some (.ref a))) H) ∧ (b = false → wNamed K Wout D r cls d σ H)
inductive NamedOk (X : Cx) : List ExceptHandler → List (Value × Nat × Suite) → Prop
  | nil : NamedOk X [] []
  | cons {x n : Str} {c : Value} {i : Nat} {ts : Suite} {b₀ : Stmt} {suite : List Stmt} {np pos' : Pos} {hds : List ExceptHandler} {l : List (Value × Nat × Suite)} (hc : Names X x c) (hi : X.N[i]? = some n) (hl : X.env.kindOf n = some .local)
      (hsu : ∀ (a : Addr) (oe : Obj) (cls : Value) (d : Option Addr) (pn : List (Addr × Obj)), Zc cls d oe → (∃ vs, oe.data = .fields vs) → PSs (X.suite a ((a, oe) :: pn)) (b₀ :: suite) (ts a cls d)) (r : NamedOk X hds l) :
      NamedOk X (.ExceptHandler (some (.Name x np)) (some n) (b₀ :: suite) pos' :: hds) ((c, i, ts) :: l)
section
variable {X : Cx} {body : List Stmt} {h₀ : ExceptHandler} {hds : List ExceptHandler} {l : List (Value × Nat × Suite)} {pos : Pos} {tb : WX → TS} {Wout : WX}
theorem ps_try_named (hst : X.stack = X.env :: X.outer) (hfm : X.env.frame = some X.env.locals) (hN : X.N.Nodup) (tk : Takes X Wout)
    (hbody : ∀ (W : WX) (pn : List (Addr × Obj)) (xe : Value → Shared → Prop), Takes (X.tr pn xe) W → PassesOwn (model X.prog X.w) X.A X.env xe → PSs (X.tr pn xe) body (tb W))
    (hh : NamedOk X (h₀ :: hds) l) : PS X (.Try body (h₀ :: hds) [] [] pos) (fun D σ H => tb (wNamed X.K Wout D l) D σ H) := by
  refine ⟨fun pins s σ H D I h => ?_⟩
  have ok := I.ok
  have frm : X.A.frames = some (X.env :: X.outer) := by
    rw [ok.frames, hst]
  refine wpAny_Try_except ?_
  have caught : Takes (X.tr (X.pn ++ pins) fun e s₁ => wpAny (model X.prog X.w) X.A (noteFrame e X.env) (fun _ s₂ => wpAny (model X.prog X.w) X.A (setFlight e none) (fun _ s₃ => wpAny (model X.prog X.w) X.A (handleBy e X.env (h₀ :: hds)) (SP X pins D) X.xe s₃) X.xe s₂) X.xe s₁) (wNamed X.K Wout D l) := by
    intro u s' xx
    obtain ⟨a, B, sI, pins', σ', H', cls, d, rfl, J', nb, up, sky, na, os, ag, w⟩ := xx
    have J : Inv X pins σ' H' sI := J'.ofTry ok
    have sky2 : Sky B (X.env :: X.outer) a (Zc cls d) X.env.locals s'.heap := by
      rw [← hst]
      exact sky
    show wpAny (model X.prog X.w) X.A (noteFrame (.ref a) X.env) _ _ _
    refine Sky.land Zc.steady frm hfm sky2 fun hA flA upA => ?_
    have JA : Inv X pins σ' H' { s' with heap := hA } := J.landed nb flA.1 (up.trans upA) os ag
    obtain ⟨oA, vsA, geA, zA, dA⟩ := flA.there
    have off : a ∉ frs (X.env :: X.outer) := fun hm => by
      obtain ⟨_, o', e', nof⟩ := flA.2.2.1.mem hm
      rw [geA] at e'
      cases e'
      exact nof _ dA
    have offL : a ≠ X.env.locals := fun z => off (List.mem_filterMap.mpr ⟨X.env, List.mem_cons_self, by rw [hfm, z]⟩)
    have offF : a ∉ X.fs := fun hm => by
      obtain ⟨e, he, q⟩ := List.mem_filterMap.mp hm
      exact off (List.mem_filterMap.mpr ⟨e, List.mem_cons_of_mem _ he, q⟩)
    have SA := JA.suite geA dA na offL offF
    -- one clause after the other
    have go : ∀ {hs : List ExceptHandler} {m : List (Value × Nat × Suite)}, NamedOk X hs m → wNamed X.K Wout D m cls d σ' H' → wpAny (model X.prog X.w) X.A (handleBy (.ref a) X.env hs) (SP X pins D) X.xe { s' with heap := hA } := by
      intro hs m hk
      induction hk with
      | nil =>
        intro w
        obtain ⟨_, _, _, oe, vs, T, _, _, he, _, hd, h1, _⟩ := id flA
        refine wpAny_handleBy_nil ?_
        unfold PySem.passOn
        refine wpAny_bind (wpAny_field he hd h1 ?_)
        rw [if_neg (show ¬ ((Value.ref T == Value.none) = true) from by simp)]
        have on : wpAny (model X.prog X.w) X.A (setFlight (.ref a) X.env.frame) (fun _ s4 => wpAny (model X.prog X.w) X.A (throw (.ref a) : Sem Flow) (SP X pins D) X.xe s4) X.xe { s' with heap := hA } := by
          rw [hfm]
          refine HandSPX.setFlight_upZ flA fun hB flB upB => wpAny_throw (tk _ _ ?_)
          exact ⟨a, B, sI, pins, σ', H', cls, d, rfl, J, nb, (up.trans upA).trans upB, .inr (.inr (by rw [hst]; exact flB)), na, os, ag, w⟩
        first
          | exact wpAny_bind (wpAny_pure (wpAny_bind on))
          | exact wpAny_bind on
      | @cons x n c i ts b₀ suite np pos' hs2 m2 hc hi hl hsu r ih =>
        intro w
        obtain ⟨b, hb1, yes, no⟩ := w
        refine wpAny_handleBy_cons (codeAny_handlers_test ?_) (by intro q; cases q)
        have isCls : PySem.W.Looks (model X.prog X.w) hA (typeOf (.ref a)) cls := fun A Q E s k q => wpAny_typeOf_ref (k _ _ geA) (by rw [zA.1]; exact q)
        have meets := PySem.W.exm_one (M := model X.prog X.w) JA.kIn isCls hb1
        have named : ∀ {Q : Value → Shared → Prop} {E : Value → Shared → Prop}, Q c { s' with heap := hA } → wpAny (model X.prog X.w) (X.A.mark (some (.ref a))) (eval (.Name x np) X.env) Q E { s' with heap := hA } := fun {Q E} q => by
          obtain ⟨hg, hdb, hm | ⟨hm, hv, hnn⟩⟩ := hc
          · exact ld_glob (X := X.suite a ((a, oA) :: (X.pn ++ pins))) SA hg hm q hdb
          · exact ld_blt (X := X.suite a ((a, oA) :: (X.pn ++ pins))) SA hg hm hv q hnn hdb
        refine named (meets.here ?_)
        cases b with
        | false =>
          show wpAny _ X.A (handleBy (.ref a) X.env hs2) _ _ _
          exact ih (no rfl)
        | true =>
          refine codeAny_handlers_suite_as ?_
          refine HandSPX.lands_againZ flA fun hB flB upB => ?_
          have JB : Inv X pins σ' H' { s' with heap := hB } := J.landed nb flB.1 ((up.trans upA).trans upB) os ag
          obtain ⟨oB, vsB, geB, zB, dB⟩ := flB.there
          have SB := JB.suite geB dB na offL offF
          refine store_ok (X := X.suite a ((a, oB) :: (X.pn ++ pins))) (v := .ref a) SB hN hi (.inl hl) rfl (fun s5 S5 => ?_) (.inr hl)
          refine wpAny_mono ((hsu a oB cls d (X.pn ++ pins) zB ⟨_, dB⟩).run [] s5 _ H' _ S5 (yes rfl a na)) (fun f s6 hsp => ?_) (fun _ _ z => False.elim z)
          have fin : ∀ {σ6 : L2.St} {H6 : Hp} {Q : Shared → Prop}, Inv (X.suite a ((a, oB) :: (X.pn ++ pins))) [] σ6 H6 s6 → (∀ s7, Inv X pins (σ6.set i none) H6 s7 → Q s7) →
              wpAny (model X.prog X.w) X.A (do bindName X.env n .none; unbindBehindTheSuite X.env n pos') (fun _ s7 => Q s7) X.xe s6 := fun {σ6 H6 Q} S6 hq => gone_ok (S6.unsuite ok) hN hi hl hq
          cases f with
          | ret u =>
            obtain ⟨v6, σ6, H6, S6, r6, q6⟩ := hsp
            exact fin S6 fun s7 J7 => ⟨_, _, _, J7, r6, q6⟩
          | next =>
            obtain ⟨σ6, H6, S6, q6⟩ := hsp
            exact fin S6 fun s7 J7 => ⟨_, _, J7, q6⟩
          | brk =>
            obtain ⟨σ6, H6, S6, q6⟩ := hsp
            exact fin S6 fun s7 J7 => ⟨_, _, J7, q6⟩
          | cont =>
            obtain ⟨σ6, H6, S6, q6⟩ := hsp
            exact fin S6 fun s7 J7 => ⟨_, _, J7, q6⟩
    exact go hh w
  refine wpAny_mono ((hbody (wNamed X.K Wout D l) (X.pn ++ pins) _ caught PassesOwn.looking).run [] s σ H D (I.toTry _) h) (fun f s1 hsp => ?_) (fun e s1 he => he)
  cases f with
  | ret u =>
    obtain ⟨v, σ', H', J', r, q⟩ := hsp
    exact ⟨v, σ', H', J'.ofTry ok, r, q⟩
  | next =>
    obtain ⟨σ', H', J', q⟩ := hsp
    exact wpAny_execs_nil ⟨σ', H', J'.ofTry ok, q⟩
  | brk =>
    obtain ⟨σ', H', J', q⟩ := hsp
    exact ⟨σ', H', J'.ofTry ok, q⟩
  | cont =>
    obtain ⟨σ', H', J', q⟩ := hsp
    exact ⟨σ', H', J'.ofTry ok, q⟩
end
/-! ### isinstance of a caught error that has a dict -/
structure IsC (K : PySem.W.Frag) (D : Addr) : Prop where
  cl : (PySem.W.clsIn K D).isSome = true
  ga : PySem.W.findIn K (.ref D) "__getattribute__" = some (some (.builtin "BaseException.__getattribute__"))
  gt : ∃ gt, PySem.W.findIn K (.ref D) "__getattr__" = some gt
  sb : PySem.W.subIn K (.ref D) (.type "BaseException") = some true
  ca : PySem.W.findIn K (.ref D) "__class__" = some (some (.builtin "object.__class__"))
  sn : PySem.W.specialIn K (.builtin "object.__class__") "__get__" = some (some (.builtin "getset_descriptor.__get__"))
  tk : PySem.W.takesIn K (.builtin "object.__class__") = some true
  mo : PySem.W.mroIn K D (.type "object") = some true
/-- isinstance(e, c): e the error that the suite holds, its class at D, its own dict at dd -/
def rIsX (K : PySem.W.Frag) (a : Addr) (cls : Value) (d : Option Addr) : List V → Hp → VK → Prop := fun xs H Q => ∃ (D : Addr) (c : V) (cv : Value) (b : Bool) (dd : Addr) (fs : List (Str × V)), IsC K D ∧ cls = .ref D ∧ d = some dd ∧ H dd = some (.xd fs) ∧ xs = [.ref a, c] ∧ ClsV c cv ∧ PySem.W.kitOne K (.ref D) cv = some b ∧ Q (.bl b) H
theorem call_isX {X : Cx} {a : Addr} {cls : Value} {d : Option Addr} {oe : Obj} {pn : List (Addr × Obj)} (hz : Zc cls d oe) (hf : ∃ vs, oe.data = .fields vs) : CallR (X.suite a ((a, oe) :: pn)) (.builtin "isinstance") (rIsX X.K a cls d) := by
  intro pins s σ H xs us Q I r h
  obtain ⟨D, c, cv, b, dd, fs, C, rfl, rfl, hdd, rfl, hcv, e, q⟩ := h
  cases r with
  | cons rx rr =>
    cases rr with
    | cons rt rr =>
      cases rr
      cases rx
      have ec := hcv.eq rt
      subst ec
      obtain ⟨hget, _⟩ := I.pin (a, oe) (List.mem_append.mpr (.inl List.mem_cons_self))
      obtain ⟨vs, hv⟩ := hf
      have hx : ObjOk X.prog X.w H s.heap dd (.xd fs) := I.hok dd _ hdd
      obtain ⟨mA, hns, _⟩ := hx
      obtain ⟨od, ho, _⟩ := lookIn_ns hns
      obtain ⟨gt, hgt⟩ := C.gt
      have J : PySem.W.InstAt s.heap a oe D (some od) := ⟨hget, hz.1, by unfold PySem.W.notCls; rw [hv] <;> rfl, by rw [hz.2]; exact ho⟩
      exact PySem.W.kia_one (PySem.W.kitx_exc C.cl C.ga hgt C.sb C.ca C.sn C.tk C.mo) I.kIn J e (by cases hcv <;> exact fun z => nomatch z) fun tk => ⟨.bl b, H, I.kept (t' := tk) fun _ _ z => z, rfl, q⟩
/-! ### an error of one field is made -/
/-- __init__(self, f): self.f = f -/
def sp_init1 (K : PySem.W.Frag) (C : Addr) (f : Str) : Sp := fun vs H Q _ => ∃ (a : Addr) (y : V), vs = [.ref a, y] ∧ H a = some (exo a C none) ∧ ∀ dx, H dx = none → dx ≠ a → Q .non (upd (upd H dx (exd dx [(f, y)])) a (exo a C (some dx)))
theorem mk1_at {K : PySem.W.Frag} {C : Addr} {f : Str} {y : V} {H1 : Hp} {Q : XK} (k : ∀ d, H1 d = none → Q (.ref C) (some d) (upd H1 d (.xd [(f, y)]))) : ([y] : List V).length ≤ 1000 ∧ ∀ a, H1 a = none → sp_init1 K C f (.ref a :: ([y] ++ [])) (upd H1 a (exo a C none))
      (fun v H2 => v = .non ∧ ∃ (d : Addr) (fs : List (Str × V)), H2 a = some (exo a C (some d)) ∧ H2 d = some (exd d fs) ∧ H1 d = none ∧ Q (.ref C) (some d) (upd (del H2 a) d (.xd fs))) (fun _ _ _ => False) := by
  refine ⟨by simp, fun a na => ⟨a, y, rfl, upd_same, fun dx ndx ne => ⟨rfl, dx, [(f, y)], upd_same, ?_, ?_, ?_⟩⟩⟩
  · rw [upd_ne ne, upd_same]
  · rw [upd_ne ne] at ndx
    exact ndx
  · rw [upd_ne ne] at ndx
    have e : upd (del (upd (upd (upd H1 a (exo a C none)) dx (exd dx [(f, y)])) a (exo a C (some dx))) a) dx (.xd [(f, y)]) = upd H1 dx (.xd [(f, y)]) := by
      funext b
      by_cases hb : b = dx
      · rw [hb, upd_same, upd_same]
      · rw [upd_ne hb, upd_ne hb]
        by_cases ha : b = a
        · rw [ha, del_same, na]
        · rw [del_ne ha, upd_ne ha, upd_ne hb, upd_ne ha]
    rw [e]
    exact k dx ndx
end Lw

namespace Lw
open PySem PySem.Spec PyProof.Rows L2
section
open PySem.W PySem.Calls
variable {prog : Program} {w : World} {A : Around} {E : Value → Shared → Prop} {s : Shared}
/-- a tuple's items are collected for sorted -/
theorem collect_tup {l : Addr} {vs : List Value} {Q : List Value → Shared → Prop} (hl : IsTup s.heap l vs.toArray) (hz : vs.length ≤ sizeLine)
    (h : Q vs { s with heap := (s.heap.push (seqObj "list" #[] 0)).update s.heap.objs.size (Obj.mapSeq (· ++ vs.toArray)) }) : wpAny (model prog w) A (collect (.ref l)) Q E s := by
  obtain ⟨o, ho, hc, n, hd⟩ := id hl
  have own : (s.heap.push (seqObj "list" #[] 0)).get? l = some o := Heap.get?_push_of_some _ ho
  have new : (s.heap.push (seqObj "list" #[] 0)).get? s.heap.objs.size = some (seqObj "list" #[] 0) := Heap.get?_push_size _ rfl
  unfold collect
  refine wpAny_bind (wpAny_runValue (codeAny_builtin entry_proto_collect' ?_))
  show wpAny _ _ (do again (.builtin "list.__iadd__" ⟨[← newList [], .ref l], []⟩)) _ _ s
  refine wpAny_bind (wpAny_newList (wpAny_pure ⟨Code.quiet_builtin _ (by decide +kernel), codeAny_builtin entry_list_iadd' ?_⟩))
  show wpAny _ _ (Builtin.List.listExtendWith (.ref s.heap.objs.size) (.ref l) (.ref s.heap.objs.size)) _ _ { s with heap := s.heap.push (seqObj "list" #[] 0) }
  unfold Builtin.List.listExtendWith
  refine wpAny_bind (wpAny_typeOf (T := "tuple") ⟨o, own, hc⟩ ?_)
  have isT : (Value.type "tuple" == Value.type "tuple") = true := rfl
  rw [if_pos (by rw [isT, Bool.or_true])]
  refine wpAny_bind (listItems_at own hd (wpAny_bind (listItems_at (xs := #[]) (n := 0) new rfl ?_)))
  rw [if_neg (by simp)]
  refine wpAny_bind (listUpdate_at (xs := #[]) (n := 0) new rfl (wpAny_pure ?_) (Nat.zero_le _) (by show (#[] ++ vs.toArray).size ≤ sizeLine + 1; simp only [Array.size_append, List.size_toArray, List.length_nil]; omega))
  refine wpAny_bind (wpAny_load (get?_update_seq new _) ?_)
  show wpAny _ _ (pure ((#[] : Array Value) ++ vs.toArray).toList) Q E _
  have e : ((#[] : Array Value) ++ vs.toArray).toList = vs := by simp
  rw [e]
  exact wpAny_pure h
/-- sorted(t), t a tuple: a new list, the sorted one -/
theorem sorted_tup {κ : PyProof.Rows.KeyKind} {l : Addr} {vs : List Value} {Q : Value → Shared → Prop} (hl : IsTup s.heap l vs.toArray) (hL : vs.length ≤ sizeLine) (S : SortsAt prog w A.in1.in1 { s with heap := sortingHeap (copyHeap s.heap vs) (s.heap.objs.size + 1) vs } κ vs)
    (h : Q (.ref (s.heap.objs.size + 1)) { s with heap := sortedAll s.heap vs (sortVals κ false vs vs).toArray }) : wpAny (model prog w) A (call (.builtin "sorted") [.ref l]) Q E s := by
  refine call_function_entry_kw kind_sorted plain_sorted entry_sorted (args_sorted1 _) ?_
  unfold Builtin.«sorted»
  refine wpAny_bind (m := checkCount "sorted" 1 1 _) (wpAny_pure (wpAny_bind (collect_tup hl hL (wpAny_bind (wpAny_newList ?_ hL)))))
  have hsz : ((s.heap.push (seqObj "list" #[] 0)).update s.heap.objs.size (Obj.mapSeq (· ++ vs.toArray))).objs.size = s.heap.objs.size + 1 := by
    rw [Heap.size_update, size_push']
  show wpAny _ _ _ _ _ { s with heap := copyHeap s.heap vs }
  rw [hsz]
  refine wpAny_bind (wpAny_holding (wpAny_call_entry_kw slot_list_sort ⟨_, copyHeap_at s.heap vs, rfl⟩ entry_list_sort ?_ (args_list_sort _)))
  exact list_sort_vals (s := { s with heap := copyHeap s.heap vs }) (copyHeap_at s.heap vs) S hL ⟨.none, rfl, wpAny_pure ⟨_, rfl, h⟩⟩
theorem sorted_dataT {β : Type} {vs : List Value} {bs : List β} {enc : β → PyData} {R : Value → β → Prop} {l : Addr} {Q : Value → Shared → Prop} (hl : IsTup s.heap l vs.toArray) (e : EachIs R vs bs) (er : EachIs (fun v b => ∃ as, Reads s.heap v (enc b) as) vs bs) (hal : AllAlike (bs.map enc)) (hk : Sortable (bs.map enc)) (hL : bs.length ≤ sizeLine)
    (hu : ∀ b, b ∈ bs → A.units + 2 + (enc b).depth < cLine) (h : ∀ out, out.length = bs.length → EachIs R out (bs.mergeSort (dataLe false enc)) → Q (.ref (s.heap.objs.size + 1)) { s with heap := sortedAll s.heap vs (List.toArray out) }) :
    wpAny (model prog w) A (call (.builtin "sorted") [.ref l]) Q E s := by
  have old : EachIs (fun v b => ∃ as, Reads (sortingHeap (copyHeap s.heap vs) (s.heap.objs.size + 1) vs) v (enc b) as) vs bs := er.mono fun _ _ ⟨as, r⟩ => ⟨as, PyProof.Rows.Reads.keeps (fun _ _ => sorting_copy_old) r⟩
  refine sorted_tup hl (by rw [e.length]; exact hL) (SortsAt.data (s := { s with heap := sortingHeap (copyHeap s.heap vs) (s.heap.objs.size + 1) vs }) (each_map (R := fun v d => ∃ as, Reads (sortingHeap (copyHeap s.heap vs) (s.heap.objs.size + 1) vs) v d as) enc old) hal hk (bound_map hu)) ?_
  exact h _ (by rw [sortVals_length false rfl]; exact e.length) (sortVals_data false e old hal)
end
end Lw

namespace Lw
open PySem PySem.Spec PyProof.Rows L2
/-! ### sorted of a list or a tuple of data that are alike -/
open PySem.W in
def rSortedM (K : PySem.W.Frag) : List V → Hp → VK → Prop := fun vs H Q => ∃ (β : Type) (a : Addr) (bs : List β) (cv : β → V) (enc : β → PyData), vs = [.ref a] ∧ (SqL K H a (bs.map cv) ∨ SqT K H a (bs.map cv)) ∧ (∀ b ∈ bs, Dp K H (cv b) (enc b)) ∧
  AllAlike (bs.map enc) ∧ Sortable (bs.map enc) ∧ (∀ b ∈ bs, (enc b).depth ≤ 60) ∧ ∀ p, H p = none → Q (.ref p) (upd H p (.lst ((bs.mergeSort (dataLe false enc)).map cv)))
section
open PySem.W
theorem each_rel {β : Type} {cv : β → V} : ∀ {bs : List β} {its : List Value}, Vals (bs.map cv) its → EachIs (fun u b => RelV (cv b) u) its bs
  | [], _, r => by
    cases r
    exact .nil
  | b :: bs, _, r => by
    cases r with
    | cons h t => exact .cons h (each_rel t)
theorem rel_each {β : Type} {cv : β → V} : ∀ {bs : List β} {its : List Value}, EachIs (fun u b => RelV (cv b) u) its bs → Vals (bs.map cv) its
  | _, _, .nil => .nil
  | _, _, .cons h t => .cons h (rel_each t)
theorem each_and {α β : Type} {R S : α → β → Prop} : ∀ {as : List α} {bs : List β}, EachIs R as bs → (∀ b ∈ bs, ∀ a, R a b → S a b) → EachIs S as bs
  | _, _, .nil, _ => .nil
  | _, _, .cons h t, k => .cons (k _ List.mem_cons_self _ h) (each_and t fun b hb => k b (List.mem_cons_of_mem _ hb))
theorem cr_sortedM {X : Cx} (hu : X.A.units + 64 < cLine) : CallR X (.builtin "sorted") (rSortedM X.K) := by
  intro pins s σ H vs us Q I r h
  obtain ⟨β, a, bs, cv, enc, rfl, hq, hd, hal, hk, hdep, q⟩ := h
  obtain ⟨u, rfl, rx⟩ := vals1 r
  cases rx
  have fin : ∀ (its : List Value), bs.length ≤ sizeLine → ∀ out : List Value, out.length = bs.length → EachIs (fun u b => RelV (cv b) u) out (bs.mergeSort (dataLe false enc)) →
      EP X pins σ Q (.ref (s.heap.objs.size + 1)) { s with heap := sortedAll s.heap its out.toArray } := fun its hz out ho he => by
    obtain ⟨ep, hat⟩ := sortedAll_at s.heap its out.toArray
    refine ⟨.ref _, upd H (s.heap.objs.size + 1) (.lst ((bs.mergeSort (dataLe false enc)).map cv)), I.laid (t' := s.toks) (fun _ _ => sortedAll_old) (Nat.le_succ _) ⟨?_, out, ep, rel_each he, hat⟩, rfl, q _ (I.hok.fresh (Nat.le_succ _))⟩
    rw [List.length_map, List.length_mergeSort]
    exact hz
  have units : ∀ b, b ∈ bs → X.A.units + 2 + (enc b).depth < cLine := fun b hb => by
    have := hdep b hb
    omega
  rcases hq with hq | hq
  · obtain ⟨its, rv, hl, hz⟩ := I.list hq
    have hn := rv.length
    rw [List.length_map] at hz hn
    have e := each_rel rv
    refine sorted_data hl.isList e (each_and e fun b hb v hv => Dp.reads I _ _ _ (hd b hb) hv) hal hk (by omega) units fun out ho he => fin its (by omega) out ho he
  · obtain ⟨its, rv, hl, hz⟩ := I.tuple hq
    have hn := rv.length
    rw [List.length_map] at hz hn
    have e := each_rel rv
    refine sorted_dataT hl e (each_and e fun b hb v hv => Dp.reads I _ _ _ (hd b hb) hv) hal hk (by omega) units fun out ho he => fin its (by omega) out ho he
end
/-! ### enumerate of a tuple -/
open Sem (wp) in
open AutoSeq1 (wpAny_loadPart') in
theorem meets_enum_tup (t : Addr) (items : Array Value) (n : Nat) (dct : Option Addr) (sl : Array (Option Value)) :
    Meets (Builtin.«enumerate.__new__» ⟨[.type "enumerate", .ref t], []⟩) (fun _ R s => s.heap.get? t = some { cls := .type "tuple", dict := dct, data := .seq items n, slots := sl } ∧
      R (.ok (.ret (.ref (s.heap.push { cls := .type "tuple_iterator", data := .fields #[.ref t, .int 0 0] }).objs.size)))
        { s with heap := (s.heap.push { cls := .type "tuple_iterator", data := .fields #[.ref t, .int 0 0] }).push { cls := .type "enumerate", data := .fields #[.none, .bool false, .ref s.heap.objs.size, rawInt 0, .none, .none] } }) :=
  .of_wp fun prog w A R s h => by
    obtain ⟨hp, g, d, tk, os⟩ := s
    obtain ⟨hl, h⟩ := h
    have hsub := sub_enumerate
    have hT : Heap.IsTuple (Shared.heap ⟨hp, g, d, tk, os⟩) t items := ⟨_, hl, rfl, n, rfl⟩
    wp_walk using wpAny_loadPart' hl
    refine wpAny_stack_any fun st => wpAny_pure ?_
    split
    · rename_i c _ _ _ _ _
      cases (c == Value.type "enumerate") <;> (wp_walk using wpAny_loadPart' hl, wpAny_pyIter_tuple hT; exact ⟨_, rfl, h⟩)
    · wp_walk using wpAny_loadPart' hl, wpAny_pyIter_tuple hT
      exact ⟨_, rfl, h⟩
theorem call_enum_tup {prog : Program} {w : World} {A : Around} {E : Value → Shared → Prop} {s : Shared} {t : Addr} {items : Array Value} {Q : Value → Shared → Prop} (hT : s.heap.IsTuple t items)
    (h : ∀ h', IsEnum h' (s.heap.objs.size + 1) s.heap.objs.size 0 .none → h'.IsTupleIter s.heap.objs.size t 0 → (∀ b o, s.heap.get? b = some o → h'.get? b = some o) → Q (.ref (s.heap.objs.size + 1)) { s with heap := h' }) :
    wpAny (model prog w) A (call (.type "enumerate") [.ref t]) Q E s := by
  obtain ⟨⟨c, dct, dt, sl⟩, hl, hc, n, hd⟩ := hT
  obtain rfl : c = .type "tuple" := hc
  obtain rfl : dt = .seq items n := hd
  refine callType_new F.called_enumerate (by decide) (F.typeCall_enumerate_1 _) (F.newCall_enumerate_1 _) (fun obj => F.args_object_init_2 obj _) F.entry_enumerate_new (meets_enum_tup t items n dct sl) ⟨hl, ?_⟩
  have hz : (s.heap.push { cls := .type "tuple_iterator", data := .fields #[.ref t, .int 0 0] }).objs.size = s.heap.objs.size + 1 := Heap.size_push ..
  show _ ∧ _
  rw [hz]
  have he : IsEnum ((s.heap.push { cls := .type "tuple_iterator", data := .fields #[.ref t, .int 0 0] }).push { cls := .type "enumerate", data := .fields #[.none, .bool false, .ref s.heap.objs.size, rawInt 0, .none, .none] }) (s.heap.objs.size + 1) s.heap.objs.size 0 .none := by
    have z := Heap.get?_push_size (s.heap.push { cls := .type "tuple_iterator", data := .fields #[.ref t, .int 0 0] }) (o := { cls := .type "enumerate", data := .fields #[.none, .bool false, .ref s.heap.objs.size, rawInt 0, .none, .none] }) rfl
    rw [hz] at z
    exact z
  exact ⟨⟨_, he, rfl⟩, h _ he ⟨_, Heap.get?_push_of_some _ (Heap.get?_push_size _ rfl), rfl, rfl⟩ fun b o x => Heap.get?_push_of_some _ (Heap.get?_push_of_some _ x)⟩
/-- the tuple at a as it stands, each item in a new pair -/
def IteT (K : PySem.W.Frag) (a : Addr) : It :=
  ⟨fun i H => ∃ (xs : List V) (x : V), SqT K H a xs ∧ xs[i]? = some x, fun i H v H' => ∃ T x, v = .ref T ∧ H T = none ∧ H' = upd H T (.tup [.int (i : Nat), x]) ∧ ∀ xs, SqT K H a xs → xs[i]? = some x, fun i H => ∃ xs : List V, SqT K H a xs ∧ xs.length = i⟩
theorem turn_enumT {P : Program} {w : World} {K : PySem.W.Frag} {elts : List Expr} {kk : Nat} {tpos : Pos} (a e it : Addr) (hai : a ≠ it) (hae : a ≠ e) :
    Turn P w K (.Tuple elts kk tpos) (IteT K a) [e, it] e (fun i h => (∃ old, IsEnum h e it ((i : Nat) : Int) old) ∧ h.IsTupleIter it a i ∧ e ≠ it) where
  mem := by simp
  obj := fun i h st b hb => by
    obtain ⟨⟨old, he⟩, ⟨o, ho, hc, hd⟩, _⟩ := st
    rcases List.mem_cons.mp hb with z | z
    · rw [z]
      exact ⟨_, he, fun v q => nomatch q⟩
    · rw [List.mem_singleton.mp z]
      exact ⟨o, ho, fun v q => by rw [hd] at q; cases q⟩
  keep := fun i h h' st k => let ⟨⟨old, he⟩, hi, hne⟩ := st; ⟨⟨old, k e (by simp) _ he⟩, hi.at fun o q => k it (by simp) o q, hne⟩
  item := by
    intro X hP hw hK hc i pins s σ H E I hf st hg
    subst hP hw hK
    obtain ⟨⟨old, he⟩, hit, hne⟩ := st
    obtain ⟨xs, x, hq, hx⟩ := hg
    obtain ⟨its, rv, tp, hz⟩ := I.tuple hq
    obtain ⟨u, hu, ru⟩ := rv.get hx
    have hel : e < s.heap.objs.size := Heap.lt_size he
    have hil : it < s.heap.objs.size := by
      obtain ⟨_, q, _⟩ := hit
      exact Heap.lt_size q
    have hiz : i < its.toArray.size := by
      rw [List.size_toArray]
      exact (List.getElem?_eq_some_iff.mp hu).1
    have hhd : X.A.in1.handled = none := I.ok.hd hc
    refine wpAny_pyNext_enum_itemD (Draws.tuple hhd it a hai its.toArray) he ⟨hit, tp⟩ hiz hne (by simp [hne, Ne.symm hae]) fun x' h' tk hPx ho hst hT hsz hk => ?_
    have ex : x' = u := by
      rw [show its.toArray[i]? = some u by simpa using hu] at hPx
      exact (Option.some.inj hPx).symm
    subst ex
    refine ⟨_, rfl, wpAny_letOwnedTupleGo_enum (s := { s with heap := h', toks := tk + 1 }) ho fun h'' he' sb => ?_⟩
    have hT2 : h''.get? s.heap.objs.size = some { cls := .type "tuple", data := .seq #[.int i tk, x'] } := (sb.2 _ (Nat.ne_of_gt hel)).trans hT
    have new : ObjOk X.prog X.w (upd H s.heap.objs.size (.tup [.int (i : Nat), x])) h'' s.heap.objs.size (.tup [.int (i : Nat), x]) :=
      ⟨by show 2 ≤ sizeLine; decide, [.int i tk, x'], .cons ⟨_, rfl⟩ (.cons ru .nil), ⟨_, hT2, rfl, _, rfl⟩⟩
    have I1 : Inv X pins σ (upd H s.heap.objs.size (.tup [.int (i : Nat), x])) { s with heap := h'', toks := tk + 1 } :=
      I.turnedNew (ch := [e, it]) (fun b ob hb q => (sb.2 b (fun z => hb (by simp [z]))).trans (hk b ob (fun z => hb (by simp [z])) (fun z => hb (by simp [z])) q)) hf (Nat.le_refl _) new
    refine ⟨.ref s.heap.objs.size, _, I1, rfl, ⟨_, x, rfl, I.hok.fresh (Nat.le_refl _), rfl, fun ys hy => ?_⟩, ⟨⟨x', ?_⟩, hst.1.at fun o q => (sb.2 it (Ne.symm hne)).trans q, hne⟩, fun b hb => ?_⟩
    · rw [I.tuple_inj hy hq]
      exact hx
    · have e1 : ((i + 1 : Nat) : Int) = (i : Int) + 1 := by omega
      rw [e1]
      exact he'
    · have hb' : b < s.heap.objs.size := by
        rcases List.mem_cons.mp hb with z | z
        · rw [z]
          exact hel
        · rw [List.mem_singleton.mp z]
          exact hil
      rw [upd_ne (Nat.ne_of_lt hb')]
      exact (hf b hb).1
  done := by
    intro X hP hw hK hc i pins s σ H E I hf st hg
    subst hP hw hK
    obtain ⟨⟨old, he⟩, hit, hne⟩ := st
    obtain ⟨xs, hq, hx⟩ := hg
    obtain ⟨its, rv, tp, hz⟩ := I.tuple hq
    obtain ⟨f0, f1, f2, f3, f4, f5⟩ := hf it (by simp)
    have hl := rv.length
    obtain rfl : i = its.toArray.size := by rw [List.size_toArray]; omega
    have hhd : X.A.in1.handled = none := I.ok.hd hc
    exact wpAny_pyNext_enum_endD (Draws.tuple hhd it a hai its.toArray) he ⟨hit, tp⟩ fun h' eb => ⟨rfl, I.turned (t' := s.toks) (fun b o hb q => eb b o hb q) f0 f1 f3 f4 f5⟩
  self := fun A i s Q E st h => let ⟨⟨_, he⟩, _⟩ := st; wpAny_pyIter_enum he h
end Lw

namespace Lw
open PySem PySem.Spec PyProof.Rows L2
/-! ### enumerate of a list or a tuple -/
def iEnumS (K : PySem.W.Frag) (ta : TA) : TI := fun σ H R => ta σ H fun vs H1 => ∃ a xs, vs = [.ref a] ∧ ((SqL K H1 a xs ∧ R (Ite K a) H1) ∨ (SqT K H1 a xs ∧ R (IteT K a) H1))
theorem pi_enumS {X : Cx} {e : Expr} {ta : TA} {p pos tpos : Pos} {elts : List Expr} {kk : Nat} (hg : Gl X "enumerate") (hm : X.mg "enumerate" = none) (ha : PA X [e] ta) (hs : starEach [e] X.env = [(false, eval e X.env)] := by rfl) :
    PI X (.Tuple elts kk tpos) (.Call (.Name "enumerate" p) [e] [] pos) (iEnumS X.K ta) := by
  refine ⟨fun pins s σ H R I h => ?_⟩
  refine Call_ (ld_blt I hg hm boot_enumerate (PyProof.Rows.callWith_type1 (thn (ha.run pos pins s σ H _ I h) fun us s1 ⟨vs, H1, I1, r1, q1⟩ => ?_) hs rfl))
  obtain ⟨a, xs, ex, q1⟩ := q1
  subst ex
  cases r1 with
  | cons r rr =>
    cases rr
    cases r
    have end_ : ∀ b, b ∈ [s1.heap.objs.size + 1, s1.heap.objs.size] → s1.heap.objs.size ≤ b := fun b hb => by
      have e' : b = s1.heap.objs.size + 1 ∨ b = s1.heap.objs.size := by simpa using hb
      rcases e' with z | z
      · rw [z]; exact Nat.le_add_right _ _
      · rw [z]; exact Nat.le_refl _
    rcases q1 with ⟨hq, q⟩ | ⟨hq, q⟩
    · obtain ⟨its, rv, p', hz⟩ := I1.list hq
      refine call_enumerate_list p'.isList fun h' he hit hsz hk => wpAny_pyIter_enum he ?_
      have I2 : Inv X pins σ H1 { s1 with heap := h' } := I1.kept (t' := s1.toks) hk
      exact ⟨s1.heap.objs.size + 1, [s1.heap.objs.size + 1, s1.heap.objs.size], _, _, H1, rfl, I2, turn_enum a (s1.heap.objs.size + 1) s1.heap.objs.size, ⟨⟨.none, he⟩, hit, Nat.succ_ne_self _⟩, fun b hb => I1.fpOk (end_ b hb) (I1.hok.fresh (end_ b hb)), q⟩
    · obtain ⟨its, rv, tp, hz⟩ := I1.tuple hq
      have hlt : a < s1.heap.objs.size := by
        obtain ⟨o, ho, _⟩ := id tp
        exact Heap.lt_size ho
      refine call_enum_tup tp fun h' he hit hk => wpAny_pyIter_enum he ?_
      have I2 : Inv X pins σ H1 { s1 with heap := h' } := I1.kept (t' := s1.toks) hk
      exact ⟨s1.heap.objs.size + 1, [s1.heap.objs.size + 1, s1.heap.objs.size], _, _, H1, rfl, I2, turn_enumT a (s1.heap.objs.size + 1) s1.heap.objs.size (Nat.ne_of_lt hlt) (Nat.ne_of_lt (Nat.lt_succ_of_lt hlt)), ⟨⟨.none, he⟩, hit, Nat.succ_ne_self _⟩, fun b hb => I1.fpOk (end_ b hb) (I1.hok.fresh (end_ b hb)), q⟩
section
variable {K : PySem.W.Frag} {a : Addr} {xs : List V}
theorem walk_enumT : Walk (IteT K a) xs.length (fun H => SqT K H a xs) (YPair (fun i => some (.int (i : Nat))) (fun i => xs[i]?)) := by
  refine ⟨fun i _ hi q => ⟨xs, xs[i], q, by simp [hi]⟩, fun _ q => ⟨xs, q, rfl⟩, fun i H v H' _ q y => ?_⟩
  obtain ⟨T, x, h1, h2, h3, h4⟩ := y
  exact ⟨T, .int (i : Nat), x, h1, h2, h3, rfl, h4 xs q⟩
end
section
open Evl
variable {K : PySem.W.Frag} {σ : L2.St} {H : Hp} {D : Ends} {te : TE} {tu tz : TS} {x : V}
theorem s_forEn {a : Addr} {xs : List V} {j k : Nat} (h : Ev te σ H (.ref a)) (hx : SqL K H a xs ∨ SqT K H a xs) (Pv : Nat → L2.St → Hp → Prop) (h0 : ∀ H1, Ex H H1 → Pv 0 σ H1) (hl : ∀ i σ' H', Pv i σ' H' → Ex H H')
    (hs : ∀ i x σ' H' T, xs[i]? = some x → Pv i σ' H' → H' T = none → tu { D with nx := Pv (i + 1), ct := Pv (i + 1), bk := D.nx } ((σ'.set j (some (.int (i : Nat)))).set k (some x)) (upd H' T (.tup [.int (i : Nat), x])))
    (hd : ∀ σ' H', Pv xs.length σ' H' → D.nx σ' H') : tFor (iEnumS K (tCons te tNil)) (gTup K 2 (gCons (gName j) (gCons (gName k) gNil))) tu D σ H := by
  refine h H (Ex.refl H) _ fun H1 e => ⟨a, xs, rfl, ?_⟩
  have go : ∀ i x σ' H' H2, i < xs.length → Pv i σ' H' → YPair (fun i => some (.int (i : Nat))) (fun i => xs[i]?) i H' x H2 → gTup K 2 (gCons (gName j) (gCons (gName k) gNil)) x σ' H2 fun σ2 H2 => tu { D with nx := Pv (i + 1), ct := Pv (i + 1), bk := D.nx } σ2 H2 := fun i x σ' H' H2 hi p y => by
    obtain ⟨T, x1, x2, rfl, nT, rfl, e1, e2⟩ := y
    cases e1
    exact ⟨T, _, rfl, st_of upd_same, rfl, _, _, rfl, _, _, rfl, rfl, hs i x2 σ' H' T e2 p nT⟩
  rcases hx with hx | hx
  · exact .inl ⟨ex_l e hx, for_it walk_enum Pv (h0 H1 e) (fun i σ' H' _ p => ex_l (hl i σ' H' p) hx) go hd⟩
  · exact .inr ⟨ex_t e hx, for_it walk_enumT Pv (h0 H1 e) (fun i σ' H' _ p => ex_t (hl i σ' H' p) hx) go hd⟩
theorem q_forEn {a : Addr} {xs : List V} {j k : Nat} (h : Ev te σ H (.ref a)) (hx : SqL K H a xs ∨ SqT K H a xs) (Pv : Nat → L2.St → Hp → Prop) (h0 : ∀ H1, Ex H H1 → Pv 0 σ H1) (hl : ∀ i σ' H', Pv i σ' H' → Ex H H')
    (hs : ∀ i x σ' H' T, xs[i]? = some x → Pv i σ' H' → H' T = none → tu { D with nx := Pv (i + 1), ct := Pv (i + 1), bk := tz D } ((σ'.set j (some (.int (i : Nat)))).set k (some x)) (upd H' T (.tup [.int (i : Nat), x])))
    (hd : ∀ σ' H', Pv xs.length σ' H' → tz D σ' H') : tSeq (tFor (iEnumS K (tCons te tNil)) (gTup K 2 (gCons (gName j) (gCons (gName k) gNil))) tu) tz D σ H := s_forEn (D := { D with nx := tz D }) h hx Pv h0 hl hs hd
/-! ### a slice of a list or a tuple -/
def EvS (te : TE) (K : PySem.W.Frag) (σ : L2.St) (H : Hp) (xs : List V) : Prop := ∀ H1, Ex H H1 → ∀ Q : VK, (∀ p H2, Ex H1 H2 → (SqL K H2 p xs ∨ SqT K H2 p xs) → Q (.ref p) H2) → te σ H1 Q
theorem cutV_to (xs : List V) (k : Nat) : cutV xs none (some (k : Int)) = xs.take k := by
  unfold cutV HT.sIx
  simp only [List.drop_zero, Nat.sub_zero]
  have : ¬ ((k : Int) < 0) := by omega
  simp [this]
theorem es_sl {tl th : TO} {a : Addr} {xs : List V} {lo hi : Option Int} (h : Ev te σ H (.ref a)) (h1 : EvO tl σ H lo) (h2 : EvO th σ H hi) (hs : SqL K H a xs ∨ SqT K H a xs) :
    EvS (tSl (fun x lo hi H Q => rSlL K x lo hi H Q ∨ rSlA K x lo hi H Q) te tl th) K σ H (cutV xs lo hi) := fun H1 e Q q =>
  h H1 e _ fun H2 e2 => h1 H2 (e.trans e2) _ fun H3 e3 => h2 H3 ((e.trans e2).trans e3) _ fun H4 e4 => by
    have e14 := (e2.trans e3).trans e4
    rcases hs with hs | hs
    · exact .inl ⟨a, xs, rfl, ex_l (e.trans e14) hs, fun p hp => q p _ (e14.trans (Ex.new hp)) (.inl (sq_of upd_same))⟩
    · refine .inr ⟨a, xs, rfl, ex_t (e.trans e14) hs, fun hw => ?_, fun hw p hp => q p _ (e14.trans (Ex.new hp)) (.inr (st_of upd_same))⟩
      have : cutV xs lo hi = xs := by
        unfold cutV
        rw [hw.1, hw.2, List.drop_zero, Nat.sub_zero, List.take_of_length_le (Nat.le_refl _)]
      rw [this] at q
      exact q a _ e14 (.inr (ex_t (e.trans e14) hs))
theorem ev_inS {ta tb : TE} {neg : Bool} {xs : List V} (ha : Ev ta σ H x) (hb : EvS tb K σ H xs) (hx : flatV x = true) (hf : xs.all flatV = true) : Ev (tOp (rIn K neg) ta tb) σ H (.bl (if neg then !inV x xs else inV x xs)) := fun H1 e Q q =>
  ha H1 e _ fun H2 e2 => hb H2 (e.trans e2) _ fun p H3 e3 hp => ⟨p, xs, rfl, hp, hx, hf, q H3 (e2.trans e3)⟩
theorem inV_strs (s : Str) (ws : List Str) : inV (.str s) (ws.map V.str) = decide (s ∈ ws) := by
  induction ws with
  | nil => rfl
  | cons w r ih =>
    unfold inV at ih ⊢
    rw [List.map_cons, List.any_cons, ih, Bool.eq_iff_iff]
    rw [Bool.or_eq_true, decide_eq_true_iff, decide_eq_true_iff, List.mem_cons]
    have : eqV (.str w) (.str s) = true ↔ s = w := by
      show (w == s) = true ↔ _
      rw [beq_iff_eq]
      exact eq_comm
    rw [this]
theorem flat_strs (ws : List Str) : (ws.map V.str).all flatV = true := by
  rw [List.all_map, List.all_eq_true]
  intro x _
  rfl
end
theorem dp_ex {K : PySem.W.Frag} {H H' : Hp} (e : Evl.Ex H H') : ∀ (d : PyData) (v : V), Dp K H v d → Dp K H' v d := by
  intro d v h
  exact Dp.rec (motive_1 := fun v d _ => Dp K H' v d) (motive_2 := fun vs ds _ => DpAll K H' vs ds) .non (fun b => .bl b) (fun i => .int i) (fun s => .str s) (fun hs _ ih => .lst (Evl.ex_l e hs) ih) (fun hs _ ih => .tup (Evl.ex_t e hs) ih) .nil (fun _ _ h1 h2 => .cons h1 h2) h
end Lw

namespace Lw
open PySem PySem.Spec PyProof.Rows L2
open PySem.W (dataLe dataLe_str)
/-! ### what goods_of answers -/
inductive GR
  | cnt
  | nm (s : Str)
  | tw (s : Str)
  | ok
  deriving DecidableEq
def scan : List Str → List Str → GR
  | _, [] => .ok
  | seen, s :: r => if vn s = false then .nm s else if s ∈ seen then .tw s else scan (seen ++ [s]) r
def gres (ws : List Str) : GR := if ws.length < 1 ∨ 5 < ws.length then .cnt else scan [] ws
theorem scan_step {ws : List Str} {i : Nat} {s : Str} (h : ws[i]? = some s) : scan (ws.take i) (ws.drop i) = if vn s = false then .nm s else if s ∈ ws.take i then .tw s else scan (ws.take (i + 1)) (ws.drop (i + 1)) := by
  have hi := (List.getElem?_eq_some_iff.mp h)
  obtain ⟨hi, e⟩ := hi
  rw [List.drop_eq_getElem_cons hi, e, scan, List.take_add_one, h]
  rfl
theorem scan_end (ws : List Str) : scan (ws.take ws.length) (ws.drop ws.length) = .ok := by
  rw [List.drop_length]
  rfl
theorem gres_in {ws : List Str} (h1 : 1 ≤ ws.length) (h5 : ws.length ≤ 5) : gres ws = scan (ws.take 0) (ws.drop 0) := by
  unfold gres
  rw [if_neg (by omega)]
  rfl
theorem scan_ok : ∀ (r seen : List Str), seen.Nodup → (scan seen r = .ok ↔ (∀ s ∈ r, vn s = true) ∧ (seen ++ r).Nodup)
  | [], seen, h => by
    rw [List.append_nil]
    exact ⟨fun _ => ⟨fun _ h => (nomatch h), h⟩, fun _ => rfl⟩
  | s :: r, seen, h => by
    rw [scan]
    by_cases h1 : vn s = false
    · rw [if_pos h1]
      refine ⟨fun h => (nomatch h), fun k => ?_⟩
      rw [k.1 s List.mem_cons_self] at h1
      cases h1
    · rw [if_neg h1]
      by_cases h2 : s ∈ seen
      · rw [if_pos h2]
        refine ⟨fun h => (nomatch h), fun k => ?_⟩
        exact absurd rfl ((List.nodup_append.mp k.2).2.2 s h2 s List.mem_cons_self)
      · rw [if_neg h2]
        have hn : (seen ++ [s]).Nodup := List.nodup_append.mpr ⟨h, by simp, fun a ha b hb e => by
          rw [List.mem_singleton] at hb
          rw [e, hb] at ha
          exact h2 ha⟩
        rw [scan_ok r (seen ++ [s]) hn, List.append_assoc]
        have : vn s = true := by simpa using h1
        refine ⟨fun k => ⟨fun t ht => ?_, k.2⟩, fun k => ⟨fun t ht => k.1 t (List.mem_cons_of_mem _ ht), k.2⟩⟩
        rcases List.mem_cons.mp ht with rfl | ht
        · exact this
        · exact k.1 t ht
theorem gres_ok {ws : List Str} : gres ws = .ok ↔ (1 ≤ ws.length ∧ ws.length ≤ 5) ∧ (∀ s ∈ ws, vn s = true) ∧ ws.Nodup := by
  unfold gres
  by_cases h : ws.length < 1 ∨ 5 < ws.length
  · rw [if_pos h]
    exact ⟨fun h => (nomatch h), fun k => by omega⟩
  · rw [if_neg h, scan_ok ws [] List.nodup_nil]
    exact ⟨fun k => ⟨by omega, k⟩, fun k => k.2⟩
/-- in order -/
def srt (ws : List Str) : List Str := ws.mergeSort (dataLe false PyData.str)
theorem srt_eq (ws : List Str) : srt ws = ws.mergeSort fun a b => decide (a.cps.toList ≤ b.cps.toList) := by
  unfold srt
  rw [show dataLe false PyData.str = dataLe false (fun b : Str => .str (id b)) from rfl, dataLe_str]
  rfl
theorem srt_perm (ws : List Str) : (srt ws).Perm ws := List.mergeSort_perm ws _
theorem srt_len (ws : List Str) : (srt ws).length = ws.length := (srt_perm ws).length_eq
theorem srt_mem {ws : List Str} {s : Str} : s ∈ srt ws ↔ s ∈ ws := (srt_perm ws).mem_iff
theorem srt_sorted (ws : List Str) : (srt ws).Pairwise fun a b => decide (a.cps.toList ≤ b.cps.toList) = true := by
  rw [srt_eq]
  refine List.pairwise_mergeSort (fun a b c h1 h2 => ?_) (fun a b => ?_) ws
  · rw [decide_eq_true_iff] at h1 h2 ⊢
    exact List.le_trans h1 h2
  · rw [Bool.or_eq_true, decide_eq_true_iff, decide_eq_true_iff]
    exact List.le_total _ _
theorem srt_idem (ws : List Str) : srt (srt ws) = srt ws := by
  rw [srt_eq (srt ws)]
  exact List.mergeSort_of_pairwise (srt_sorted ws)
theorem gres_srt {ws : List Str} (h : gres ws = .ok) : gres (srt ws) = .ok := by
  rw [gres_ok] at h ⊢
  rw [srt_len]
  exact ⟨h.1, fun s hs => h.2.1 s (srt_mem.mp hs), (srt_perm ws).nodup_iff.mpr h.2.2⟩
/-! ### the contracts -/
def TxtOk (ws : List Str) : Prop := ∀ s ∈ ws, s.length ≤ 1000 ∧ SOk s
theorem srt_ok {ws : List Str} (h : TxtOk ws) : TxtOk (srt ws) := fun s hs => h s (srt_mem.mp hs)
def SqS (K : PySem.W.Frag) (H : Hp) (a : Addr) (ws : List Str) : Prop := SqL K H a (ws.map V.str) ∨ SqT K H a (ws.map V.str)
theorem sqs_ex {K : PySem.W.Frag} {H H' : Hp} {a : Addr} {ws : List Str} (e : Evl.Ex H H') (h : SqS K H a ws) : SqS K H' a ws := h.elim (fun h => .inl (Evl.ex_l e h)) fun h => .inr (Evl.ex_t e h)
def goodsAt (CB CN CD : Addr) (ws : List Str) (H1 : Hp) (Q : VK) (E : XK) : Prop := match gres ws with
  | .cnt => ∀ d, H1 d = none → E (.ref CB) (some d) (upd H1 d (.xd [("count", .int (ws.length : Int))]))
  | .nm s => ∀ d, H1 d = none → E (.ref CN) (some d) (upd H1 d (.xd [("name", .str s)]))
  | .tw s => ∀ d, H1 d = none → E (.ref CD) (some d) (upd H1 d (.xd [("name", .str s)]))
  | .ok => ∀ p, H1 p = none → Q (.ref p) (upd H1 p (.tup ((srt ws).map V.str)))
def sp_goods (K : PySem.W.Frag) (CB CN CD : Addr) : Sp := fun vs H Q E => ∃ (a : Addr) (ws : List Str), vs = [.ref a] ∧ SqS K H a ws ∧ TxtOk ws ∧ ws.length ≤ 1000 ∧ ∀ H1, Evl.Ex H H1 → goodsAt CB CN CD ws H1 Q E
/-- a class of the module -/
theorem pe_cls {X : Cx} {x : Str} {p : Pos} {C : Addr} (hg : Gl X x) (hm : X.mg x = some (.ref C)) (hdb : (x == ("__debug__" : Str)) = false := by decide) : PE X (.Name x p) (tC (.ref C)) := pe_gv hg ⟨_, hm, rfl⟩ hdb
/-- a class of errors with one field -/
structure ErC (P : Program) (w : World) (K : PySem.W.Frag) (mg : Str → Option Value) (base : Heap) (x f : Str) (C fI : Addr) (fd : FuncData) : Prop where
  O : OexC K C
  X : XfC K C
  I : IsC K C
  i : PySem.W.findIn K (.ref C) "__init__" = some (some (.ref fI))
  t : PySem.W.typeIn K (.ref fI) = some (.type "function")
  no : PySem.W.findIn K (.ref C) f = some none
  g : mg x = some (.ref C)
  G : FnOk P w K mg base CX0 1 fI fd ["self", f] (sp_init1 K C f)
  b : Binds K fd ["self", f] []
/-- what is told, what is due -/
def TellAt (H : Hp) (p : Addr) (ws : List Str) : Prop := match gres ws with
  | .cnt => H p = some (.lst [.str "count", .int (ws.length : Int), .bl true])
  | .nm s => H p = some (.lst [.str "name", .str s, .bl true])
  | .tw s => H p = some (.lst [.str "twice", .str s, .bl true])
  | .ok => ∃ t, H p = some (.lst [.str "goods", .ref t]) ∧ H t = some (.tup ((srt ws).map V.str))
def tellD (ws : List Str) : PyData := match gres ws with
  | .cnt => .list [.str "count", .int (ws.length : Int), .bool true]
  | .nm s => .list [.str "name", .str s, .bool true]
  | .tw s => .list [.str "twice", .str s, .bool true]
  | .ok => .list [.str "goods", .tuple ((srt ws).map PyData.str)]
theorem TellAt.ex {H H' : Hp} {p : Addr} {ws : List Str} (e : Evl.Ex H H') (h : TellAt H p ws) : TellAt H' p ws := by
  unfold TellAt at h ⊢
  split at h
  · exact e _ _ h
  · exact e _ _ h
  · exact e _ _ h
  · obtain ⟨t, h1, h2⟩ := h
    exact ⟨t, e _ _ h1, e _ _ h2⟩
theorem TellAt.dp {K : PySem.W.Frag} {H : Hp} {p : Addr} {ws : List Str} (h : TellAt H p ws) : Dp K H (.ref p) (tellD ws) := by
  unfold TellAt at h
  unfold tellD
  split at h
  · exact .lst (Evl.sq_of h) (.cons (.str _) (.cons (.int _) (.cons (.bl _) .nil)))
  · exact .lst (Evl.sq_of h) (.cons (.str _) (.cons (.str _) (.cons (.bl _) .nil)))
  · exact .lst (Evl.sq_of h) (.cons (.str _) (.cons (.str _) (.cons (.bl _) .nil)))
  · obtain ⟨t, h1, h2⟩ := h
    exact .lst (Evl.sq_of h1) (.cons (.str _) (.cons (dp_strsT (Evl.st_of h2)) .nil))
theorem TellAt.head {H : Hp} {p : Addr} {ws : List Str} (h : TellAt H p ws) : ∃ (tag : Str) (r : List V), H p = some (.lst (.str tag :: r)) ∧ SOk tag ∧ (gres ws ≠ .ok → tag ≠ "goods") ∧ (gres ws = .ok → tag = "goods" ∧ ∃ t, r = [.ref t] ∧ H t = some (.tup ((srt ws).map V.str))) := by
  have lit : ∀ {z : Str}, (z.cps.toList.all fun c => decide (c < 0x110000)) = true → SOk z := fun {z} k c hc => by
    have := List.all_eq_true.mp k c hc
    exact of_decide_eq_true this
  unfold TellAt at h
  cases hg : gres ws with
  | cnt =>
    rw [hg] at h
    exact ⟨_, _, h, lit (by decide +kernel), (fun _ => by decide +kernel), (fun k => nomatch k)⟩
  | nm s =>
    rw [hg] at h
    exact ⟨_, _, h, lit (by decide +kernel), (fun _ => by decide +kernel), (fun k => nomatch k)⟩
  | tw s =>
    rw [hg] at h
    exact ⟨_, _, h, lit (by decide +kernel), (fun _ => by decide +kernel), (fun k => nomatch k)⟩
  | ok =>
    rw [hg] at h
    obtain ⟨t, h1, h2⟩ := h
    exact ⟨_, _, h1, lit (by decide +kernel), (fun k => absurd rfl k), fun _ => ⟨rfl, t, rfl, h2⟩⟩
theorem TellAt.srt {H : Hp} {p : Addr} {ws : List Str} (h : TellAt H p ws) (hg : gres ws = .ok) : TellAt H p (srt ws) := by
  unfold TellAt at h ⊢
  rw [gres_srt hg]
  rw [hg] at h
  rw [srt_idem]
  exact h
theorem perm_strs {ys : List V} {ws : List Str} (h : ys.Perm (ws.map V.str)) : ∃ zs : List Str, ys = zs.map V.str ∧ zs.Perm ws := by
  let g : V → Str := fun v => match v with
    | .str z => z
    | _ => ""
  refine ⟨ys.map g, ?_, ?_⟩
  · rw [List.map_map]
    refine (List.map_id ys).symm.trans (List.map_congr_left fun v hv => ?_)
    obtain ⟨z, _, rfl⟩ := List.mem_map.mp (h.mem_iff.mp hv)
    rfl
  · have := h.map g
    rw [List.map_map] at this
    rw [show ws.map (g ∘ V.str) = ws from (List.map_congr_left fun z _ => rfl).trans (List.map_id ws)] at this
    exact this
/-- texts of few signs, all below 128 -/
def Asc (m : Nat) (ws : List Str) : Prop := ∀ z ∈ ws, z.length ≤ m ∧ ∀ c ∈ z.cps.toList, c < 128
theorem Asc.ok {m : Nat} {ws : List Str} (h : Asc m ws) (hm : m ≤ 1000) : TxtOk ws := fun z hz => ⟨Nat.le_trans (h z hz).1 hm, fun c hc => by
  have := (h z hz).2 c hc
  omega⟩
theorem asc_upper {z : Str} (h : ∀ c ∈ z.cps.toList, c < 128) : (Txt.upper z).length = z.length ∧ ∀ c ∈ (Txt.upper z).cps.toList, c < 128 := by
  rw [PyProof.Rows.upper_ascii h]
  refine ⟨by simp [Str.length], fun c hc => ?_⟩
  simp only [Array.toList_map, List.mem_map] at hc
  obtain ⟨d, hd, rfl⟩ := hc
  have := h d hd
  unfold PyProof.Rows.up1
  split <;> omega
theorem tellD_good {ws : List Str} (h : TxtOk ws) : GoodD 2 (tellD ws) := by
  have hs : ∀ {s : Str} {r : List Str}, scan r ws = .nm s ∨ scan r ws = .tw s → s ∈ ws := fun {s r} => by
    induction ws generalizing r with
    | nil => rintro (h | h) <;> cases h
    | cons x l ih =>
      rw [scan]
      split
      · rintro (h | h) <;> cases h
        exact List.mem_cons_self
      · split
        · rintro (h | h) <;> cases h
          exact List.mem_cons_self
        · exact fun k => List.mem_cons_of_mem _ (ih (fun s hs => h s (List.mem_cons_of_mem _ hs)) k)
  have gs : ∀ {s : Str}, gres ws = .nm s ∨ gres ws = .tw s → SOk s := fun {s} k => by
    unfold gres at k
    split at k
    · rcases k with k | k <;> cases k
    · exact (h s (hs k)).2
  have lit : ∀ {z : Str}, (z.cps.toList.all fun c => decide (c < 0x110000)) = true → SOk z := fun {z} k c hc => by
    have := List.all_eq_true.mp k c hc
    exact of_decide_eq_true this
  have g : GoodD 2 (tellD ws) := by
    unfold tellD
    split
    · refine good_list (n := 1) fun d hd => ?_
      simp only [List.mem_cons, List.not_mem_nil, or_false] at hd
      rcases hd with rfl | rfl | rfl
      · exact good_str (lit (by decide +kernel))
      · exact good_int _
      · exact good_bool _
    · rename_i s hg
      refine good_list (n := 1) fun d hd => ?_
      simp only [List.mem_cons, List.not_mem_nil, or_false] at hd
      rcases hd with rfl | rfl | rfl
      · exact good_str (lit (by decide +kernel))
      · exact good_str (gs (.inl hg))
      · exact good_bool _
    · rename_i s hg
      refine good_list (n := 1) fun d hd => ?_
      simp only [List.mem_cons, List.not_mem_nil, or_false] at hd
      rcases hd with rfl | rfl | rfl
      · exact good_str (lit (by decide +kernel))
      · exact good_str (gs (.inr hg))
      · exact good_bool _
    · refine good_list (n := 1) fun d hd => ?_
      simp only [List.mem_cons, List.not_mem_nil, or_false] at hd
      rcases hd with rfl | rfl
      · exact good_str (lit (by decide +kernel))
      · exact good_strsT fun z hz => (srt_ok h z hz).2
  exact g
end Lw

namespace Lw
open PySem PySem.Spec PyProof.Rows L2
open PySem.W (dataLe dataLe_str)
/-! ### bundles by the places of their goods -/
def nextI (n : Nat) (L : List (List Nat)) : List (List Nat) := L.flatMap fun b => ((List.range n).filter fun g => b.isEmpty || decide (b.getLastD 0 < g)).map fun g => b ++ [g]
def layI (n : Nat) : Nat → List (List Nat)
  | 0 => [[]]
  | k + 1 => nextI n (layI n k)
def flatI (n k : Nat) : List (List Nat) := (List.range k).flatMap (layI n)
def allI (n : Nat) : List (List Nat) := flatI n (n + 1)
def fndI : Nat → List (List Nat)
  | 0 => [[]]
  | k + 1 => fndI k ++ (fndI k).map fun b => b ++ [k]
def upto {P : Nat → Bool} (n : Nat) (h : (List.range n).all P = true) (i : Nat) (hi : i < n) : P i = true := List.all_eq_true.mp h i (List.mem_range.mpr hi)
theorem lay_end (n : Nat) (hn : n < 6) : layI n 6 = [] := by
  have := upto (P := fun n => decide (layI n 6 = [])) 6 (by decide +kernel) n hn
  exact of_decide_eq_true this
theorem flat_all (n k : Nat) (hn : n < 6) (hk : k < 7) (h : layI n k = []) : flatI n k = allI n := by
  have := upto (P := fun n => (List.range 7).all fun k => decide (layI n k = [] → flatI n k = allI n)) 6 (by decide +kernel) n hn
  exact of_decide_eq_true (upto (P := fun k => decide (layI n k = [] → flatI n k = allI n)) 7 this k hk) h
theorem lay_in (n k : Nat) (hn : n < 6) (hk : k < 7) : ∀ b ∈ layI n k, b.length ≤ 5 ∧ ∀ i ∈ b, i < n := by
  have := upto (P := fun n => (List.range 7).all fun k => decide (∀ b ∈ layI n k, b.length ≤ 5 ∧ ∀ i ∈ b, i < n)) 6 (by decide +kernel) n hn
  exact of_decide_eq_true (upto (P := fun k => decide (∀ b ∈ layI n k, b.length ≤ 5 ∧ ∀ i ∈ b, i < n)) 7 this k hk)
theorem lay_len (n k : Nat) (hn : n < 6) (hk : k < 7) : (layI n k).length ≤ 32 ∧ (flatI n k).length ≤ 32 := by
  have := upto (P := fun n => (List.range 7).all fun k => decide ((layI n k).length ≤ 32 ∧ (flatI n k).length ≤ 32)) 6 (by decide +kernel) n hn
  exact of_decide_eq_true (upto (P := fun k => decide ((layI n k).length ≤ 32 ∧ (flatI n k).length ≤ 32)) 7 this k hk)
theorem all_in (n : Nat) (hn : n < 6) : ∀ b ∈ allI n, b.length ≤ 5 ∧ ∀ i ∈ b, i < n := by
  have := upto (P := fun n => decide (∀ b ∈ allI n, b.length ≤ 5 ∧ ∀ i ∈ b, i < n)) 6 (by decide +kernel) n hn
  exact of_decide_eq_true this
theorem all_nodup (n : Nat) (hn : n < 6) : (allI n).Nodup := by
  have := upto (P := fun n => decide (allI n).Nodup) 6 (by decide +kernel) n hn
  exact of_decide_eq_true this
theorem all_self (n : Nat) (hn : n < 6) : ∀ b ∈ allI n, ((List.range n).filter fun i => decide (i ∈ b)) = b := by
  have := upto (P := fun n => decide (∀ b ∈ allI n, ((List.range n).filter fun i => decide (i ∈ b)) = b)) 6 (by decide +kernel) n hn
  exact of_decide_eq_true this
theorem fnd_in (n : Nat) (hn : n < 6) : (fndI n).length ≤ 32 ∧ ∀ b ∈ fndI n, b.length ≤ 5 ∧ ∀ i ∈ b, i < n := by
  have := upto (P := fun n => decide ((fndI n).length ≤ 32 ∧ ∀ b ∈ fndI n, b.length ≤ 5 ∧ ∀ i ∈ b, i < n)) 6 (by decide +kernel) n hn
  exact of_decide_eq_true this
/-- the places of what was found, among all -/
theorem fnd_at (n : Nat) (hn : n < 6) : ((fndI n).map fun b => (allI n).idxOf b).isPerm (List.range (allI n).length) = true ∧ ∀ b ∈ fndI n, b ∈ allI n := by
  have := upto (P := fun n => ((fndI n).map fun b => (allI n).idxOf b).isPerm (List.range (allI n).length) && decide (∀ b ∈ fndI n, b ∈ allI n)) 6 (by decide +kernel) n hn
  rw [Bool.and_eq_true] at this
  exact ⟨this.1, of_decide_eq_true this.2⟩
/-- less, by length and then in order -/
def ltI (a b : List Nat) : Bool := decide (a.length < b.length) || (decide (a.length = b.length) && decide (a < b))
theorem fnd_le (n : Nat) (hn : n < 6) : ∀ a ∈ fndI n, ∀ b ∈ fndI n, (!ltI b a) = decide ((allI n).idxOf a ≤ (allI n).idxOf b) := by
  have := upto (P := fun n => decide (∀ a ∈ fndI n, ∀ b ∈ fndI n, (!ltI b a) = decide ((allI n).idxOf a ≤ (allI n).idxOf b))) 6 (by decide +kernel) n hn
  exact of_decide_eq_true this
/-! ### and by the goods themselves -/
def Inc (ws : List Str) : Prop := ws.Pairwise fun a b => a.cps.toList < b.cps.toList
def fI (ws : List Str) (i : Nat) : Str := ws.getD i ""
def bagI (ws : List Str) (b : List Nat) : List Str := b.map (fI ws)
theorem fI_at {ws : List Str} {i : Nat} {s : Str} (h : ws[i]? = some s) : fI ws i = s := by
  unfold fI
  rw [List.getD_eq_getElem?_getD, h]
  rfl
theorem ws_eq (ws : List Str) : ws = (List.range ws.length).map (fI ws) := by
  apply List.ext_getElem?
  intro i
  rw [List.getElem?_map]
  by_cases h : i < ws.length
  · rw [List.getElem?_range h, Option.map_some, List.getElem?_eq_getElem h, fI_at (List.getElem?_eq_getElem h)]
  · rw [List.getElem?_eq_none (by omega), List.getElem?_eq_none (by simp; omega)]
    rfl
theorem inc_lt {ws : List Str} (h : Inc ws) {i j : Nat} (hi : i < ws.length) (hj : j < ws.length) : (fI ws i).cps.toList < (fI ws j).cps.toList ↔ i < j := by
  have key : ∀ {i j : Nat} (hi : i < ws.length) (hj : j < ws.length), i < j → (fI ws i).cps.toList < (fI ws j).cps.toList := fun {i j} hi hj hij => by
    rw [fI_at (List.getElem?_eq_getElem hi), fI_at (List.getElem?_eq_getElem hj)]
    exact List.pairwise_iff_getElem.mp h i j hi hj hij
  constructor
  · intro hl
    rcases Nat.lt_trichotomy i j with h1 | h1 | h1
    · exact h1
    · subst h1
      exact absurd hl (List.lt_irrefl _)
    · exact absurd (List.lt_trans hl (key hj hi h1)) (List.lt_irrefl _)
  · exact key hi hj
theorem inc_inj {ws : List Str} (h : Inc ws) {i j : Nat} (hi : i < ws.length) (hj : j < ws.length) (e : fI ws i = fI ws j) : i = j := by
  rcases Nat.lt_trichotomy i j with h1 | h1 | h1
  · exact absurd (e ▸ (inc_lt h hi hj).mpr h1) (List.lt_irrefl _)
  · exact h1
  · exact absurd (e ▸ (inc_lt h hj hi).mpr h1) (List.lt_irrefl _)
theorem bag_inj {ws : List Str} (h : Inc ws) : ∀ {a b : List Nat}, (∀ i ∈ a, i < ws.length) → (∀ i ∈ b, i < ws.length) → bagI ws a = bagI ws b → a = b
  | [], [], _, _, _ => rfl
  | [], _ :: _, _, _, e => by cases e
  | _ :: _, [], _, _, e => by cases e
  | x :: a, y :: b, ha, hb, e => by
    have e' : fI ws x = fI ws y ∧ bagI ws a = bagI ws b := List.cons.inj e
    rw [inc_inj h (ha x List.mem_cons_self) (hb y List.mem_cons_self) e'.1, bag_inj h (fun i hi => ha i (List.mem_cons_of_mem _ hi)) (fun i hi => hb i (List.mem_cons_of_mem _ hi)) e'.2]
theorem srt_inc {ws : List Str} (h : ws.Nodup) : Inc (srt ws) := by
  have h1 := srt_sorted ws
  have h2 : (srt ws).Pairwise (· ≠ ·) := (srt_perm ws).nodup_iff.mpr h
  refine (h1.and h2).imp fun {a b} k => ?_
  have k1 := of_decide_eq_true k.1
  exact Classical.byContradiction fun z => k.2 (str_ext (List.le_antisymm k1 (List.not_lt.mp z)))
end Lw

namespace Lw
open PySem PySem.Spec PyProof.Rows L2
/-! ### lists of tuples of texts -/
def BagAt (H : Hp) (v : V) (b : List Str) : Prop := ∃ a, v = .ref a ∧ H a = some (.tup (b.map V.str))
def Bags (H : Hp) : List V → List (List Str) → Prop
  | [], [] => True
  | v :: vs, b :: bs => BagAt H v b ∧ Bags H vs bs
  | _, _ => False
theorem BagAt.ex {H H' : Hp} {v : V} {b : List Str} (e : Evl.Ex H H') (h : BagAt H v b) : BagAt H' v b := by
  obtain ⟨a, h1, h2⟩ := h
  exact ⟨a, h1, e _ _ h2⟩
theorem BagAt.put {H : Hp} {v : V} {b : List Str} {p : Addr} {xs : List V} {o : HO} (hp : H p = some (.lst xs)) (h : BagAt H v b) : BagAt (upd H p o) v b := by
  obtain ⟨a, h1, h2⟩ := h
  refine ⟨a, h1, (upd_ne fun z => ?_).trans h2⟩
  rw [z, hp] at h2
  cases h2
theorem Bags.imp {H H' : Hp} (k : ∀ v b, BagAt H v b → BagAt H' v b) : ∀ {vs : List V} {bs : List (List Str)}, Bags H vs bs → Bags H' vs bs
  | [], [], _ => trivial
  | _ :: _, _ :: _, h => ⟨k _ _ h.1, Bags.imp k h.2⟩
  | [], _ :: _, h => h.elim
  | _ :: _, [], h => h.elim
theorem Bags.ex {H H' : Hp} {vs : List V} {bs : List (List Str)} (e : Evl.Ex H H') (h : Bags H vs bs) : Bags H' vs bs := h.imp fun _ _ k => k.ex e
theorem Bags.put {H : Hp} {vs : List V} {bs : List (List Str)} {p : Addr} {xs : List V} {o : HO} (hp : H p = some (.lst xs)) (h : Bags H vs bs) : Bags (upd H p o) vs bs := h.imp fun _ _ k => k.put hp
theorem Bags.append {H : Hp} : ∀ {vs ws : List V} {bs cs : List (List Str)}, Bags H vs bs → Bags H ws cs → Bags H (vs ++ ws) (bs ++ cs)
  | [], _, [], _, _, h => h
  | _ :: _, _, _ :: _, _, h, k => ⟨h.1, Bags.append h.2 k⟩
  | [], _, _ :: _, _, h, _ => h.elim
  | _ :: _, _, [], _, h, _ => h.elim
theorem Bags.len {H : Hp} : ∀ {vs : List V} {bs : List (List Str)}, Bags H vs bs → vs.length = bs.length
  | [], [], _ => rfl
  | _ :: _, _ :: _, h => by rw [List.length_cons, List.length_cons, Bags.len h.2]
  | [], _ :: _, h => h.elim
  | _ :: _, [], h => h.elim
theorem Bags.at {H : Hp} : ∀ {vs : List V} {bs : List (List Str)} {i : Nat} {v : V}, Bags H vs bs → vs[i]? = some v → ∃ b, bs[i]? = some b ∧ BagAt H v b
  | [], [], _, _, _, h => by cases h
  | _ :: _, b :: _, 0, _, h, e => by
    cases e
    exact ⟨b, rfl, h.1⟩
  | _ :: _, _ :: _, i + 1, _, h, e => Bags.at (i := i) h.2 (by simpa using e)
  | [], _ :: _, _, _, h, _ => h.elim
  | _ :: _, [], _, _, h, _ => h.elim
def bagsD (bs : List (List Str)) : PyData := .list (bs.map fun b => .tuple (b.map PyData.str))
theorem Bags.dp {K : PySem.W.Frag} {H : Hp} {p : Addr} {vs : List V} {bs : List (List Str)} (hp : SqL K H p vs) (h : Bags H vs bs) : Dp K H (.ref p) (bagsD bs) := by
  refine .lst hp ?_
  clear hp
  induction vs generalizing bs with
  | nil =>
    cases bs with
    | nil => exact .nil
    | cons _ _ => exact h.elim
  | cons v vs ih =>
    cases bs with
    | nil => exact h.elim
    | cons b bs =>
      obtain ⟨a, rfl, ha⟩ := h.1
      exact .cons (dp_strsT (Evl.st_of ha)) (ih h.2)
theorem bagsD_good {bs : List (List Str)} (h : ∀ b ∈ bs, ∀ z ∈ b, SOk z) : GoodD 2 (bagsD bs) := good_list fun d hd => by
  obtain ⟨b, hb, rfl⟩ := List.mem_map.mp hd
  exact good_strsT (h b hb)
/-! ### [elt for x in list for y in tuple if test]: what comes is told by dat -/
section
open Evl
variable {K : PySem.W.Frag} {σ : L2.St} {H1 : Hp} {tt1 : TT} {te : TE} {tl tr : TE}
theorem lc2_bags {a b : Addr} {xs ys : List V} {jx jy : Nat} {vs vs1 : List Nat} (t : Nat → Nat → Bool) (d : Nat → Nat → List Str) (dat : Nat → Nat → List (List Str))
    (h : Ev tl σ H1 (.ref a)) (hx : SqL K H1 a xs) (hy : SqT K H1 b ys) (h00 : dat 0 0 = []) (hsx : ∀ i j, dat i (j + 1) = dat i j ++ if t i j = true then [d i j] else []) (hnx : ∀ i, i < xs.length → dat (i + 1) 0 = dat i ys.length) (hsm : ∀ i j, i ≤ xs.length → j ≤ ys.length → (dat i j).length ≤ 50000)
    (hw : ∀ x, wipe ((wipe σ vs).set jx (some x)) vs = wipe σ vs) (hw1 : ∀ x y, wipe ((wipe ((wipe σ vs).set jx (some x)) vs1).set jy (some y)) vs1 = wipe ((wipe σ vs).set jx (some x)) vs1)
    (hr : ∀ x H', Ex H1 H' → Ev tr ((wipe σ vs).set jx (some x)) H' (.ref b))
    (hT : ∀ i j x y H', xs[i]? = some x → ys[j]? = some y → Ex H1 H' → EvT tt1 ((wipe ((wipe σ vs).set jx (some x)) vs1).set jy (some y)) H' (t i j))
    (hE : ∀ i j x y H', xs[i]? = some x → ys[j]? = some y → Ex H1 H' → t i j = true → ∀ Q : VK, (∀ v H2, Ex H' H2 → BagAt H2 v (d i j) → Q v H2) → te ((wipe ((wipe σ vs).set jx (some x)) vs1).set jy (some y)) H' Q)
    {Q : VK} (k : ∀ p acc H', H1 p = none → Ex H1 H' → H' p = some (.lst acc) → Bags H' acc (dat xs.length 0) → Q (.ref p) H') :
    tLc2 (iList K tl) (gName jx) tYes (iTup K tr) (gName jy) tt1 te vs vs1 σ H1 Q := by
  refine h H1 (Ex.refl _) _ fun H2 e2 => ⟨a, rfl, ⟨xs, ex_l e2 hx⟩, fun D nD => ?_⟩
  have nD1 : H1 D = none := fresh_back e2 nD
  -- the word of the outer loop
  let Pv : Nat → Nat → Hp → Prop := fun i j H' => Ex H1 H' ∧ ∃ acc, H' D = some (.lst acc) ∧ Bags H' acc (dat i j)
  refine ⟨fun i m H' => m = xs.length - i ∧ i ≤ xs.length ∧ Pv i 0 H', ⟨xs.length, by simp, Nat.zero_le _, e2.trans (Ex.new nD), [], upd_same, by rw [h00]; trivial⟩, ?_⟩
  rintro i m H' ⟨rfl, hi, e', acc, hD, hB⟩
  by_cases hlt : i < xs.length
  · refine .inr ⟨⟨xs, xs[i], ex_l e' hx, by simp [hlt]⟩, Pv (i + 1) 0, fun H3 p => ⟨xs.length - (i + 1), by omega, rfl, hlt, p⟩, fun x H3 y => ?_⟩
    obtain ⟨rfl, hy2⟩ := y
    have hxi : xs[i]? = some x := hy2 xs (ex_l e' hx)
    refine ⟨hw x, ?_⟩
    unfold tYes
    simp only [if_true]
    refine hr x H3 e' H3 (Ex.refl _) _ fun H4 e4 => ⟨b, rfl, ⟨ys, ex_t (e'.trans e4) hy⟩, ?_⟩
    refine ⟨fun j m H' => m = ys.length - j ∧ j ≤ ys.length ∧ Pv i j H', ⟨ys.length, by simp, Nat.zero_le _, e'.trans e4, acc, e4 _ _ hD, hB.ex e4⟩, ?_⟩
    rintro j m H5 ⟨rfl, hj, e5, acc5, hD5, hB5⟩
    by_cases hjt : j < ys.length
    · refine .inr ⟨⟨ys, ys[j], ex_t e5 hy, by simp [hjt]⟩, Pv i (j + 1), fun H6 p => ⟨ys.length - (j + 1), by omega, rfl, hjt, p⟩, fun y H6 z => ?_⟩
      obtain ⟨rfl, hz2⟩ := z
      have hyj : ys[j]? = some y := hz2 ys (ex_t e5 hy)
      refine ⟨hw1 x y, ?_⟩
      refine hT i j x y H6 hxi hyj e5 H6 (Ex.refl _) _ fun H7 e7 => ?_
      cases ht : t i j with
      | true =>
        rw [if_pos rfl]
        refine hE i j x y H7 hxi hyj (e5.trans e7) ht _ fun v H8 e8 hv => ?_
        have hD8 := (e7.trans e8) _ _ hD5
        have hB8 := hB5.ex (e7.trans e8)
        refine ⟨acc5, hD8, sz_lt (by rw [hB5.len]; have := hsm i j hi hj; omega), (((e5.trans e7).trans e8)).mut nD1, _, upd_same, ?_⟩
        rw [hsx, ht, if_pos rfl]
        exact (Bags.append (ws := [v]) (cs := [d i j]) hB8 ⟨hv, trivial⟩).put hD8
      | false =>
        rw [if_neg (by simp)]
        refine ⟨e5.trans e7, acc5, e7 _ _ hD5, ?_⟩
        rw [hsx, ht, if_neg (by simp), List.append_nil]
        exact hB5.ex e7
    · have ej : j = ys.length := by omega
      subst ej
      refine .inl ⟨⟨ys, ex_t e5 hy, Nat.le_refl _⟩, e5, acc5, hD5, ?_⟩
      rw [hnx i hlt]
      exact hB5
  · have ei : i = xs.length := by omega
    subst ei
    exact .inl ⟨⟨xs, ex_l e' hx, Nat.le_refl _⟩, k D acc H' nD1 e' hD hB⟩
end
end Lw

namespace Lw
open PySem PySem.Spec PyProof.Rows L2
/-! ### rules whose written part is told, for blocks -/
section
variable {X : Cx}
theorem k_catA (K : PySem.W.Frag) (h : X.K = K := by rfl) : OpR X (binaryOp .Add) (rCatA K) := h ▸ op_catA
theorem k_ixT (K : PySem.W.Frag) (h : X.K = K := by rfl) : IxR X (rIxT K) := h ▸ ix_tup
theorem k_ixL (K : PySem.W.Frag) (h : X.K = K := by rfl) : IxR X (rIxL K) := h ▸ ix_list
theorem k_len (K : PySem.W.Frag) (h : X.K = K := by rfl) : CallR X (.builtin "len") (fun xs H Q => ∃ p ys, xs = [.ref p] ∧ (SqL K H p ys ∨ SqT K H p ys) ∧ Q (.int ys.length) H) := h ▸ call_len_seq
theorem k_listof (K : PySem.W.Frag) (h : X.K = K := by rfl) : CallR X (.type "list") (fun xs H Q => ∃ p ys, xs = [.ref p] ∧ (SqL K H p ys ∨ SqT K H p ys) ∧ ∀ l, H l = none → Q (.ref l) (upd H l (.lst ys))) := h ▸ call_list_of
theorem k_piT {tg l : Expr} {tl : TE} (K : PySem.W.Frag) (hl : PE X l tl) (h : X.K = K := by rfl) : PI X tg l (iTup K tl) := h ▸ pi_tup hl
theorem k_piL {tg l : Expr} {tl : TE} (K : PySem.W.Frag) (hl : PE X l tl) (h : X.K = K := by rfl) : PI X tg l (iList K tl) := h ▸ pi_list hl
theorem k_truth {a : Expr} {ta : TE} (K : PySem.W.Frag) (ha : PE X a ta) (he : ∀ whole, isTrue a X.env whole = (do let v ← whole; standAt a.pos; holding [v] (truthy v))) (h : X.K = K := by rfl) :
    PT X a (fun σ H Q => ta σ H fun x H' => ∃ k, TruV K x H' k ∧ Q k H') := h ▸ pt_truth ha he
end
/-! ### in, over data of a list or a tuple -/
def rInDS (K : PySem.W.Frag) (neg : Bool) : R2 := fun x y H Q => ∃ d ds, Dp K H x d ∧ (Dp K H y (.list ds) ∨ Dp K H y (.tuple ds)) ∧ SeqAt.shaped d = true ∧ SeqAt.shaped (.list ds) = true ∧ Q (.bl (if neg = true then !(ds.any fun z => PyData.eqv z d) else ds.any fun z => PyData.eqv z d)) H
theorem k_inD {X : Cx} (K : PySem.W.Frag) (hu : X.A.units + 65 < cLine) (h : X.K = K := by rfl) : OpR X (compareOp .In) (rInDS K false) := by
  subst h
  intro pins s σ H x y v u Q I rx ry h
  obtain ⟨d, ds, hd, he, sd, se, q⟩ := h
  obtain ⟨as, r1⟩ := Dp.reads I d x v hd rx
  have s1 := SeqAt.canLay_of_shaped se
  rcases he with he | he
  · obtain ⟨bs, r2⟩ := Dp.reads I (.list ds) y u he ry
    exact SeqAt.in_list_reads r2 r1 s1 (SeqAt.canLay_of_shaped sd) (room_in_shaped sd hu) ⟨.bl _, H, I, rfl, q⟩
  · obtain ⟨bs, r2⟩ := Dp.reads I (.tuple ds) y u he ry
    exact SeqAt.in_tuple_reads r2 r1 s1 (SeqAt.canLay_of_shaped sd) (room_in_shaped sd hu) ⟨.bl _, H, I, rfl, q⟩
theorem room65 {k : Nat} {A : Around} (r : Room k A) : A.units + 65 < cLine := by
  have := r.un
  omega
/-! ### the rows of the next layer -/
def okI (b : List Nat) (j : Nat) : Bool := b.isEmpty || decide (b.getLastD 0 < j)
def rowI (j : Nat) (b : List Nat) : List (List Nat) := ((List.range j).filter (okI b)).map fun g => b ++ [g]
def datI (n : Nat) (L : List (List Nat)) (i j : Nat) : List (List Nat) := (L.take i).flatMap (rowI n) ++ rowI j (L.getD i [])
theorem row_succ (j : Nat) (b : List Nat) : rowI (j + 1) b = rowI j b ++ if okI b j = true then [b ++ [j]] else [] := by
  unfold rowI
  rw [List.range_succ, List.filter_append, List.map_append]
  congr 1
  by_cases h : okI b j = true
  · rw [if_pos h, List.filter_cons_of_pos h]
    rfl
  · rw [if_neg h, List.filter_cons_of_neg h]
    rfl
theorem dat_succ (n : Nat) (L : List (List Nat)) (i j : Nat) : datI n L i (j + 1) = datI n L i j ++ if okI (L.getD i []) j = true then [L.getD i [] ++ [j]] else [] := by
  unfold datI
  rw [row_succ, List.append_assoc]
theorem dat_next (n : Nat) (L : List (List Nat)) (i : Nat) (hi : i < L.length) : datI n L (i + 1) 0 = datI n L i n := by
  unfold datI
  rw [List.take_add_one, List.getElem?_eq_getElem hi, List.flatMap_append, List.getD_eq_getElem?_getD (l := L) (i := i), List.getElem?_eq_getElem hi]
  simp [rowI]
theorem dat_end (n : Nat) (L : List (List Nat)) : datI n L L.length 0 = nextI n L := by
  unfold datI nextI
  rw [List.take_length]
  have : rowI 0 (L.getD L.length []) = [] := rfl
  rw [this, List.append_nil]
  rfl
theorem row_len (j : Nat) (b : List Nat) : (rowI j b).length ≤ j := by
  unfold rowI
  rw [List.length_map]
  exact Nat.le_trans (List.length_filter_le _ _) (by rw [List.length_range]; exact Nat.le_refl _)
theorem flat_len {α β : Type} (f : α → List β) (c : Nat) : ∀ l : List α, (∀ b ∈ l, (f b).length ≤ c) → (l.flatMap f).length ≤ c * l.length
  | [], _ => by simp
  | x :: l, h => by
    rw [List.flatMap_cons, List.length_append, List.length_cons, Nat.mul_succ]
    have h1 := h x List.mem_cons_self
    have h2 := flat_len f c l fun b hb => h b (List.mem_cons_of_mem _ hb)
    omega
theorem dat_len (n : Nat) (L : List (List Nat)) (i j : Nat) : (datI n L i j).length ≤ n * L.length + j := by
  unfold datI
  rw [List.length_append]
  have h1 := flat_len (rowI n) n (L.take i) fun b _ => row_len n b
  have h2 := row_len j (L.getD i [])
  have h3 : n * (L.take i).length ≤ n * L.length := Nat.mul_le_mul_left n (by rw [List.length_take]; omega)
  omega
theorem at_last {ws : List Str} {b : List Nat} (h : b ≠ []) : atI ((bagI ws b).map V.str) (-1) = some (.str (fI ws (b.getLastD 0))) := by
  have hl : 0 < b.length := List.length_pos_iff.mpr h
  unfold atI ixN
  have n1 : ¬ (0 : Int) ≤ -1 := by omega
  have n2 : -(((bagI ws b).map V.str).length : Int) ≤ -1 := by
    unfold bagI
    simp only [List.length_map]
    omega
  rw [if_neg n1, if_pos n2]
  have e : ((-1 : Int) + (((bagI ws b).map V.str).length : Int)).toNat = b.length - 1 := by
    unfold bagI
    simp only [List.length_map]
    omega
  rw [e]
  show ((bagI ws b).map V.str)[b.length - 1]? = _
  unfold bagI
  rw [List.getElem?_map, List.getElem?_map, List.getElem?_eq_getElem (by omega : b.length - 1 < b.length)]
  simp only [Option.map_some]
  congr 3
  rw [List.getLastD_eq_getLast?, List.getLast?_eq_getElem?, List.getElem?_eq_getElem (by omega : b.length - 1 < b.length)]
  rfl
end Lw

namespace Lw
open PySem PySem.Spec PyProof.Rows L2
open PySem.W (dataLe dataLe_str rowLt dataLt dataLt_tuple dataLt_cons dataLt_int dataLt_str alike alikeAll)
/-! ### items of a list, each told by a relation -/
def Rels {α : Type} (R : Hp → V → α → Prop) (H : Hp) : List V → List α → Prop
  | [], [] => True
  | v :: vs, b :: bs => R H v b ∧ Rels R H vs bs
  | _, _ => False
section
variable {α : Type} {R S : Hp → V → α → Prop}
theorem Rels.imp {H H' : Hp} (k : ∀ v b, R H v b → S H' v b) : ∀ {vs : List V} {bs : List α}, Rels R H vs bs → Rels S H' vs bs
  | [], [], _ => trivial
  | _ :: _, _ :: _, h => ⟨k _ _ h.1, Rels.imp k h.2⟩
  | [], _ :: _, h => h.elim
  | _ :: _, [], h => h.elim
theorem Rels.append {H : Hp} : ∀ {vs ws : List V} {bs cs : List α}, Rels R H vs bs → Rels R H ws cs → Rels R H (vs ++ ws) (bs ++ cs)
  | [], _, [], _, _, h => h
  | _ :: _, _, _ :: _, _, h, k => ⟨h.1, Rels.append h.2 k⟩
  | [], _, _ :: _, _, h, _ => h.elim
  | _ :: _, _, [], _, h, _ => h.elim
theorem Rels.len {H : Hp} : ∀ {vs : List V} {bs : List α}, Rels R H vs bs → vs.length = bs.length
  | [], [], _ => rfl
  | _ :: _, _ :: _, h => by rw [List.length_cons, List.length_cons, Rels.len h.2]
  | [], _ :: _, h => h.elim
  | _ :: _, [], h => h.elim
theorem Rels.at {H : Hp} : ∀ {vs : List V} {bs : List α} {i : Nat} {v : V}, Rels R H vs bs → vs[i]? = some v → ∃ b, bs[i]? = some b ∧ R H v b
  | [], [], _, _, _, h => by cases h
  | _ :: _, b :: _, 0, _, h, e => by
    cases e
    exact ⟨b, rfl, h.1⟩
  | _ :: _, _ :: _, i + 1, _, h, e => Rels.at (i := i) h.2 (by simpa using e)
  | [], _ :: _, _, _, h, _ => h.elim
  | _ :: _, [], _, _, h, _ => h.elim
theorem Rels.map {β : Type} {g : β → α} {T : Hp → V → β → Prop} {H : Hp} (k : ∀ v b, T H v b ↔ R H v (g b)) : ∀ {vs : List V} {bs : List β}, Rels T H vs bs ↔ Rels R H vs (bs.map g)
  | [], [] => Iff.rfl
  | _ :: _, _ :: _ => and_congr (k _ _) (Rels.map k)
  | [], _ :: _ => Iff.rfl
  | _ :: _, [] => Iff.rfl
theorem Rels.zip_mem {H : Hp} : ∀ {vs : List V} {bs : List α}, Rels R H vs bs → ∀ q ∈ vs.zip bs, R H q.1 q.2
  | [], _, _, q, h => by simp at h
  | _ :: _, [], _, q, h => by simp at h
  | v :: vs, b :: bs, k, q, h => by
    rw [List.zip_cons_cons] at h
    rcases List.mem_cons.mp h with rfl | h
    · exact k.1
    · exact Rels.zip_mem k.2 q h
theorem bags_rels {H : Hp} : ∀ {vs : List V} {bs : List (List Str)}, Bags H vs bs ↔ Rels BagAt H vs bs
  | [], [] => Iff.rfl
  | _ :: _, _ :: _ => and_congr Iff.rfl bags_rels
  | [], _ :: _ => Iff.rfl
  | _ :: _, [] => Iff.rfl
end
section
open Evl
variable {K : PySem.W.Frag} {σ : L2.St} {H1 : Hp} {te : TE}
/-- [elt for x in a list], each item told -/
theorem lc1_rels {α : Type} {R : Hp → V → α → Prop} (Rex : ∀ {H H' : Hp} {v : V} {b : α}, Ex H H' → R H v b → R H' v b) (Rput : ∀ {H : Hp} {p : Addr} {xs : List V} {o : HO} {v : V} {b : α}, H p = some (.lst xs) → R H v b → R (upd H p o) v b)
    {a : Addr} {xs : List V} {j : Nat} {vs : List Nat} (ds : List α) (hx : SqL K H1 a xs) (hl : ds.length = xs.length) (hz : xs.length ≤ 50000) (hw : ∀ x, wipe ((wipe σ vs).set j (some x)) vs = wipe σ vs)
    (hE : ∀ (i : Nat) (x : V) (d : α) (H' : Hp), xs[i]? = some x → ds[i]? = some d → Ex H1 H' → ∀ Q : VK, (∀ v H2, Ex H' H2 → R H2 v d → Q v H2) → te ((wipe σ vs).set j (some x)) H' Q)
    {Qd : Addr → Hp → Prop} (k : ∀ p acc H', H1 p = none → Ex H1 H' → H' p = some (.lst acc) → Rels R H' acc ds → Qd p H') :
    ∀ D, H1 D = none → ∃ W : Nat → Nat → Hp → Prop, (∃ m, W 0 m (upd H1 D (.lst []))) ∧ ∀ i m H, W i m H →
      ((Itl K a).stop i H ∧ Qd D H) ∨ ((Itl K a).go i H ∧ ∃ Nx : Hp → Prop, (∀ H', Nx H' → ∃ m', m' < m ∧ W (i + 1) m' H') ∧ ∀ x H', (Itl K a).yld i H x H' → gName j x (wipe σ vs) H' fun σ2 H2 => wipe σ2 vs = wipe σ vs ∧ tYes σ2 H2 fun b H3 =>
        if b = true then te σ2 H3 fun y H4 => ∃ acc, H4 D = some (.lst acc) ∧ acc.length < sizeLine ∧ Nx (upd H4 D (.lst (acc ++ [y]))) else Nx H3) := fun D nD => by
  refine lc_it (walk_list (xs := xs)) (fun i H' => Ex H1 H' ∧ ∃ acc, H' D = some (.lst acc) ∧ Rels R H' acc (ds.take i)) ⟨Ex.new nD, [], upd_same, trivial⟩ (fun i H' _ p => ex_l p.1 hx) (fun i x H' H2 hi ⟨e, acc, hD, hB⟩ y => ?_) (fun H' ⟨e, acc, hD, hB⟩ => ?_)
  · obtain ⟨rfl, hxi⟩ := y
    refine ⟨hw x, ?_⟩
    unfold tYes
    simp only [if_true]
    obtain ⟨d, hd⟩ : ∃ d, ds[i]? = some d := ⟨_, List.getElem?_eq_getElem (by omega : i < ds.length)⟩
    refine hE i x d H2 hxi hd e _ fun v H3 e3 hv => ?_
    have hD3 := e3 _ _ hD
    refine ⟨acc, hD3, sz_lt (by rw [hB.len, List.length_take]; omega), (e.trans e3).mut nD, _, upd_same, ?_⟩
    rw [List.take_add_one, hd]
    exact (Rels.append (ws := [v]) (cs := [d]) (hB.imp fun _ _ h => Rex e3 h) ⟨hv, trivial⟩).imp fun _ _ h => Rput hD3 h
  · rw [← hl, List.take_length] at hB
    exact k D acc H' nD e hD hB
end
section
open Evl
theorem eu_tupof {K : PySem.W.Frag} {σ : L2.St} {H : Hp} {xs : List V} {tl : TE} (h : EvL tl σ H xs) : EvU (tCB (fun xs H Q => ∃ p ys, xs = [.ref p] ∧ ((SqL K H p ys ∧ ∀ l, H l = none → Q (.ref l) (upd H l (.tup ys))) ∨ (SqT K H p ys ∧ Q (.ref p) H))) (tCons tl tNil)) σ H xs := fun H1 e Q q =>
  h H1 e _ fun p H2 np e2 hp => ⟨p, xs, rfl, .inl ⟨sq_of hp, fun l nl => q l _ (fresh_back e2 nl) (e2.trans (Ex.new nl)) upd_same⟩⟩
theorem el_listof {K : PySem.W.Frag} {σ : L2.St} {H : Hp} {a : Addr} {xs : List V} {te : TE} (h : Ev te σ H (.ref a)) (hx : SqL K H a xs ∨ SqT K H a xs) : EvL (tCB (fun xs H Q => ∃ p ys, xs = [.ref p] ∧ (SqL K H p ys ∨ SqT K H p ys) ∧ ∀ l, H l = none → Q (.ref l) (upd H l (.lst ys))) (tCons te tNil)) σ H xs := fun H1 e Q q =>
  h H1 e _ fun H2 e2 => ⟨a, xs, rfl, hx.elim (fun h => .inl (ex_l (e.trans e2) h)) (fun h => .inr (ex_t (e.trans e2) h)), fun l nl => q l _ (fresh_back e2 nl) (e2.trans (Ex.new nl)) upd_same⟩
end
/-! ### the order of bundles -/
theorem alike_strs : ∀ xs ys : List Str, alikeAll (xs.map PyData.str) (ys.map PyData.str) = true
  | [], _ => rfl
  | _ :: _, [] => rfl
  | _ :: xs, _ :: ys => by
    rw [List.map_cons, List.map_cons, alikeAll, alike_strs xs ys]
    rfl
theorem row_nil : rowLt [] [] = false := by
  unfold rowLt
  decide +kernel
theorem row_bag {ws : List Str} (hI : Inc ws) : ∀ {a b : List Nat}, (∀ i ∈ a, i < ws.length) → (∀ i ∈ b, i < ws.length) → rowLt ((bagI ws a).map PyData.str) ((bagI ws b).map PyData.str) = decide (a < b)
  | [], [], _, _ => by
    rw [show rowLt ((bagI ws []).map PyData.str) ((bagI ws []).map PyData.str) = false from row_nil]
    simp
  | [], y :: b, _, _ => by
    have e : rowLt [] (PyData.str (fI ws y) :: (bagI ws b).map PyData.str) = true := by
      unfold rowLt
      rw [PySem.W.toks_all_cons]
      simp only [PySem.W.keyToksAll]
      rw [lex_diff (O := itemOrd) (by simp)]
      rfl
    simpa [bagI] using e
  | x :: a, [], _, _ => by
    have e : rowLt (PyData.str (fI ws x) :: (bagI ws a).map PyData.str) [] = false := by
      unfold rowLt
      rw [PySem.W.toks_all_cons]
      simp only [PySem.W.keyToksAll]
      rw [lex_diff (O := itemOrd) (by simp)]
      rfl
    simpa [bagI] using e
  | x :: a, y :: b, ha, hb => by
    have e : rowLt ((bagI ws (x :: a)).map PyData.str) ((bagI ws (y :: b)).map PyData.str) = if fI ws x = fI ws y then rowLt ((bagI ws a).map PyData.str) ((bagI ws b).map PyData.str) else decide ((fI ws x).cps.toList < (fI ws y).cps.toList) := by
      show rowLt (.str (fI ws x) :: (bagI ws a).map PyData.str) (.str (fI ws y) :: (bagI ws b).map PyData.str) = _
      unfold rowLt
      rw [dataLt_cons (by simp [alike]), dataLt_str]
      simp only [PyData.eqv, beq_iff_eq]
    have hx := ha x List.mem_cons_self
    have hy := hb y List.mem_cons_self
    rw [e]
    by_cases h : x = y
    · rw [if_pos (by rw [h]), row_bag hI (fun i hi => ha i (List.mem_cons_of_mem _ hi)) (fun i hi => hb i (List.mem_cons_of_mem _ hi))]
      simp [h, List.cons_lt_cons_iff]
    · rw [if_neg fun z => h (inc_inj hI hx hy z)]
      simp only [inc_lt hI hx hy]
      simp [h, List.cons_lt_cons_iff]
/-- a pair of a length and a bundle -/
def PairAt (ws : List Str) (H : Hp) (v : V) (b : List Nat) : Prop := ∃ t ax, v = .ref t ∧ H t = some (.tup [.int (b.length : Int), .ref ax]) ∧ H ax = some (.tup ((bagI ws b).map V.str))
theorem PairAt.ex {ws : List Str} {H H' : Hp} {v : V} {b : List Nat} (e : Evl.Ex H H') (h : PairAt ws H v b) : PairAt ws H' v b := by
  obtain ⟨t, ax, h1, h2, h3⟩ := h
  exact ⟨t, ax, h1, e _ _ h2, e _ _ h3⟩
theorem PairAt.put {ws : List Str} {H : Hp} {v : V} {b : List Nat} {p : Addr} {xs : List V} {o : HO} (hp : H p = some (.lst xs)) (h : PairAt ws H v b) : PairAt ws (upd H p o) v b := by
  obtain ⟨t, ax, h1, h2, h3⟩ := h
  refine ⟨t, ax, h1, (upd_ne fun z => ?_).trans h2, (upd_ne fun z => ?_).trans h3⟩
  · rw [z, hp] at h2
    cases h2
  · rw [z, hp] at h3
    cases h3
/-! ### sorted pairs of a length and a bundle -/
def pairD (ws : List Str) (b : List Nat) : PyData := .tuple [.int (b.length : Int), .tuple ((bagI ws b).map PyData.str)]
theorem lt_pair {ws : List Str} (hI : Inc ws) {a b : List Nat} (ha : ∀ i ∈ a, i < ws.length) (hb : ∀ i ∈ b, i < ws.length) : dataLt (pairD ws a) (pairD ws b) = ltI a b := by
  unfold pairD
  rw [dataLt_tuple, dataLt_cons (by simp [alike]), dataLt_int, dataLt_cons (by simpa [alike] using alike_strs _ _)]
  have h1 : dataLt (.tuple ((bagI ws a).map PyData.str)) (.tuple ((bagI ws b).map PyData.str)) = decide (a < b) := by
    rw [dataLt_tuple]
    exact row_bag hI ha hb
  rw [h1, eqv_strsT]
  unfold ltI
  by_cases hl : a.length = b.length
  · have : PyData.eqv (.int (a.length : Int)) (.int (b.length : Int)) = true := by simp [PyData.eqv, hl]
    rw [if_pos this]
    by_cases hab : bagI ws a = bagI ws b
    · rw [if_pos (by rw [hab]; exact decide_eq_true rfl)]
      have e := bag_inj hI ha hb hab
      subst e
      rw [show PyProof.Rows.lexLt itemOrd (PySem.W.keyToksAll []) (PySem.W.keyToksAll []) = false from row_nil]
      simp
    · rw [if_neg (by rw [decide_eq_false hab]; simp)]
      simp [hl]
  · have : PyData.eqv (.int (a.length : Int)) (.int (b.length : Int)) = false := by
      simp only [PyData.eqv]
      exact beq_false_of_ne (by omega)
    rw [if_neg (by rw [this]; simp)]
    simp [hl]
theorem sort_pairs {ws : List Str} (hI : Inc ws) (hn : ws.length < 6) {γ : Type} (l : List (γ × List Nat)) (hl : l.map (·.2) = fndI ws.length) : (l.mergeSort (dataLe false fun q => pairD ws q.2)).map (·.2) = allI ws.length := by
  have hmem : ∀ q ∈ l, q.2 ∈ fndI ws.length := fun q hq => by
    rw [← hl]
    exact List.mem_map_of_mem hq
  have hin := (fnd_in ws.length hn).2
  obtain ⟨hp, hall⟩ := fnd_at ws.length hn
  have key : (l.mergeSort (dataLe false fun q => pairD ws q.2)).map (fun q => (allI ws.length).idxOf q.2) = (l.map fun q => (allI ws.length).idxOf q.2).mergeSort fun a b => decide (a ≤ b) := List.map_mergeSort fun a ha b hb => by
    show (!dataLt (pairD ws b.2) (pairD ws a.2)) = _
    rw [lt_pair hI (hin _ (hmem b hb)).2 (hin _ (hmem a ha)).2]
    exact fnd_le ws.length hn _ (hmem a ha) _ (hmem b hb)
  have hfst : (l.map fun q => (allI ws.length).idxOf q.2) = (fndI ws.length).map fun b => (allI ws.length).idxOf b := by
    rw [← hl, List.map_map]
    rfl
  have hr : ((fndI ws.length).map fun b => (allI ws.length).idxOf b).mergeSort (fun a b => decide (a ≤ b)) = List.range (allI ws.length).length := by
    refine List.Perm.eq_of_pairwise (le := fun a b : Nat => decide (a ≤ b) = true) (fun a b _ _ h1 h2 => ?_) (List.pairwise_mergeSort (fun a b c h1 h2 => ?_) (fun a b => ?_) _) ?_ ((List.mergeSort_perm _ _).trans (List.isPerm_iff.mp hp))
    · have := of_decide_eq_true h1
      have := of_decide_eq_true h2
      omega
    · have := of_decide_eq_true h1
      have := of_decide_eq_true h2
      exact decide_eq_true (by omega)
    · rcases Nat.le_total a b with h | h <;> simp [h]
    · exact (List.pairwise_le_range).imp fun h => decide_eq_true h
  rw [hfst, hr] at key
  have back : (l.mergeSort (dataLe false fun q => pairD ws q.2)).map (·.2) = ((l.mergeSort (dataLe false fun q => pairD ws q.2)).map (fun q => (allI ws.length).idxOf q.2)).map fun i => (allI ws.length).getD i [] := by
    rw [List.map_map]
    refine List.map_congr_left fun q hq => ?_
    have hq' := hall _ (hmem q ((List.mergeSort_perm l _).mem_iff.mp hq))
    show q.2 = (allI ws.length).getD ((allI ws.length).idxOf q.2) []
    have hlt := List.idxOf_lt_length_iff.mpr hq'
    rw [List.getD_eq_getElem?_getD, List.getElem?_eq_getElem hlt, List.getElem_idxOf hlt]
    rfl
  rw [back, key]
  apply List.ext_getElem?
  intro i
  rw [List.getElem?_map]
  by_cases h : i < (allI ws.length).length
  · rw [List.getElem?_range h, List.getElem?_eq_getElem h, Option.map_some, List.getD_eq_getElem?_getD, List.getElem?_eq_getElem h]
    rfl
  · rw [List.getElem?_eq_none (by simp; omega), List.getElem?_eq_none (by omega)]
    rfl
end Lw

namespace Lw
open PySem PySem.Spec PyProof.Rows L2 HT
/-! ### t[::-1] of a tuple -/
section
variable {prog : Program} {w : World} {A : Around} {E : Value → Shared → Prop} {s : Shared}
theorem adjust_rev (n : Nat) : Builtin.Slice.sliceAdjust none none (-1) (n : Int) = ((n : Int) - 1, -1) := by
  have h1 : ((-1 : Int) < 0) := by omega
  unfold Builtin.Slice.sliceAdjust
  simp only [h1, if_true]
theorem places_rev (n : Nat) : Builtin.Slice.slicePlaces ((n : Int) - 1) (-1) (-1) = n := by
  unfold Builtin.Slice.slicePlaces
  have h1 : ¬ ((-1 : Int) > 0) := by omega
  simp only [h1, if_false]
  have e : (n : Int) - 1 - -1 - 1 = (n : Int) - 1 := by omega
  rw [e, show (- -1 : Int) = 1 from rfl, Int.ediv_one]
  split <;> omega
theorem fm_some {α β : Type} (f : α → Option β) (g : α → β) : ∀ l : List α, (∀ a ∈ l, f a = some (g a)) → l.filterMap f = l.map g
  | [], _ => rfl
  | a :: l, h => by
    rw [List.filterMap_cons, h a List.mem_cons_self, List.map_cons]
    show g a :: l.filterMap f = _
    rw [fm_some f g l fun b hb => h b (List.mem_cons_of_mem _ hb)]
theorem pick_rev (xs : Array Value) : ((List.range xs.size).filterMap fun (k : Nat) => xs[((xs.size : Int) - 1 + (k : Int) * -1).toNat]?).toArray = xs.toList.reverse.toArray := by
  congr 1
  have e : ((List.range xs.size).filterMap fun (k : Nat) => xs[((xs.size : Int) - 1 + (k : Int) * -1).toNat]?) = (List.range xs.size).map fun k => xs.toList.reverse.getD k .none := by
    refine fm_some _ _ _ fun k hk => ?_
    have hk' := List.mem_range.mp hk
    have h2 : ((xs.size : Int) - 1 + (k : Int) * -1).toNat = xs.size - 1 - k := by omega
    rw [h2]
    show xs[xs.size - 1 - k]? = some (xs.toList.reverse.getD k .none)
    rw [List.getD_eq_getElem?_getD, List.getElem?_reverse (by simpa using hk'), Array.length_toList, Array.getElem?_toList, Array.getElem?_eq_getElem (by omega : xs.size - 1 - k < xs.size)]
    rfl
  rw [e]
  apply List.ext_getElem?
  intro i
  rw [List.getElem?_map]
  by_cases h : i < xs.size
  · rw [List.getElem?_range h, Option.map_some, List.getD_eq_getElem?_getD, List.getElem?_eq_getElem (by simpa using h)]
    rfl
  · rw [List.getElem?_eq_none (by simp; omega), List.getElem?_eq_none (by simp; omega)]
    rfl
theorem sliceApplied_rev {sl : Addr} {vl vu vs : Value} {n : Nat} {Q : Int × Int × Nat → Shared → Prop} (hs : s.heap.IsSliceOf sl vl vu vs) (pl : IsPart vl none) (pu : IsPart vu none) (ps : IsPart vs (some (-1)))
    (h : Q ((n : Int) - 1, -1, n) s) : wpAny (model prog w) A (Builtin.Slice.sliceApplied (.ref sl) (pure (n : Int))) Q E s := by
  obtain ⟨os, hos, hcs, hds⟩ := id hs
  unfold Builtin.Slice.sliceApplied Builtin.Slice.sliceFields
  refine wpAny_bind (wpAny_bind (wpAny_field hos hds (x := vl) rfl (wpAny_bind (wpAny_field hos hds (x := vu) rfl (wpAny_bind (wpAny_field hos hds (x := vs) rfl (wpAny_pure ?_)))))))
  refine wpAny_bind (slicePart_ ps ?_)
  show wpAny _ _ (if ((-1 : Int) == 0) = true then _ else _) _ _ s
  rw [if_neg (by decide)]
  refine wpAny_bind (slicePart_ pl (wpAny_bind (slicePart_ pu (wpAny_bind (wpAny_pure ?_)))))
  show wpAny _ _ (match Builtin.Slice.sliceAdjust none none (-1) (n : Int) with | (lo, hi) => pure (lo, (-1 : Int), Builtin.Slice.slicePlaces lo hi (-1))) _ _ s
  rw [adjust_rev]
  show wpAny _ _ (pure ((n : Int) - 1, (-1 : Int), Builtin.Slice.slicePlaces ((n : Int) - 1) (-1) (-1))) _ _ s
  rw [places_rev]
  exact wpAny_pure h
theorem getItem_tuple_rev {t sl : Addr} {items : Array Value} {vl vu vs : Value} {Q : Value → Shared → Prop} (ht : IsTup s.heap t items) (hs : s.heap.IsSliceOf sl vl vu vs) (pl : IsPart vl none) (pu : IsPart vu none) (ps : IsPart vs (some (-1)))
    (h : Q (.ref s.heap.objs.size) { s with heap := s.heap.push { cls := .type "tuple", data := .seq items.toList.reverse.toArray } })
    (hsz : items.size ≤ sizeLine) : wpAny (model prog w) A (getItem (.ref t) (.ref sl)) Q E s := by
  have hok : sizeOk (.seq items.toList.reverse.toArray) := by
    show items.toList.reverse.toArray.size ≤ sizeLine
    rw [List.size_toArray, List.length_reverse, Array.length_toList]
    exact hsz
  obtain ⟨os, hos, hcs, hds⟩ := id hs
  have isS : s.TypeIs (.ref sl) "slice" := ⟨os, hos, hcs⟩
  unfold getItem
  try with_reducible refine wpAny_holding ?_
  first | refine wpAny_bind (wpAny_pure ?_) | skip
  refine wpAny_bind (wpAny_sequenceKey ht.typeIs (by decide) ?_)
  refine wpAny_bind (wpAny_callSpecial?_slot (name := Str.ofString "__getitem__") ht.typeIs PyProof.Rows.slot_tuple_getitem (wpAny_call_entry PyProof.Rows.slot_tuple_getitem ht.typeIs entry_tuple_getitem ?_ (args_tuple_getitem _ _)))
  show wpAny _ _ (Builtin.Tuple.tupleItemsOf (.ref t) >>= _) _ _ s
  refine wpAny_bind (tupleItemsOf_ ht ?_)
  refine wpAny_bind (wpAny_typeOf isS ?_)
  rw [if_pos (by decide)]
  refine wpAny_bind (sliceApplied_rev hs pl pu ps ?_)
  have no : ¬ ((((items.size : Int) - 1 == 0) && ((-1 : Int) == 1) && (items.size == items.size)) = true) := by
    rw [show ((-1 : Int) == 1) = false from by decide, Bool.and_false, Bool.false_and]
    simp
  show wpAny _ _ (if ((((items.size : Int) - 1 == 0) && ((-1 : Int) == 1) && (items.size == items.size)) = true) then _ else _) _ _ s
  rw [if_neg no, pick_rev]
  first
    | exact wpAny_bind (m := Builtin.Tuple.tupleExact _) (wpAny_newObj_type (wpAny_pure ⟨_, rfl, wpAny_pure h⟩) hok)
    | exact wpAny_bind (m := Builtin.Tuple.tupleExact _) (wpAny_newObj_type (wpAny_bind (wpAny_pure (wpAny_pure ⟨_, rfl, wpAny_pure h⟩))) hok)
    | exact wpAny_bind (wpAny_bind (m := Builtin.Tuple.tupleExact _) (wpAny_newObj_type (wpAny_pure (wpAny_pure ⟨_, rfl, wpAny_pure h⟩)) hok))
    | exact wpAny_bind (wpAny_bind (m := Builtin.Tuple.tupleExact _) (wpAny_newObj_type (wpAny_pure ⟨_, rfl, wpAny_pure h⟩) hok))
end
section
variable {X : Cx}
def tRevT (K : PySem.W.Frag) (te : TE) : TE := fun σ H Q => te σ H fun x H1 => ∃ a xs, x = .ref a ∧ SqT K H1 a xs ∧ ∀ p, H1 p = none → Q (.ref p) (upd H1 p (.tup xs.reverse))
theorem pe_revT {e : Expr} {te : TE} {k : Nat} {p1 p2 p3 pos : Pos} (he : PE X e te) : PE X (.Subscript e (.Slice none none (some (.UnaryOp .USub (.Constant (.int 1) k p1) p2)) p3) pos) (tRevT X.K te) := by
  refine ⟨fun pins s σ H Q I h => ?_⟩
  refine Subscript_ (thn (he.run pins s σ H _ I h) fun v s1 ⟨x, H1, I1, r1, q1⟩ => ?_)
  obtain ⟨a, xs, ex, hx, q⟩ := q1
  subst ex
  cases r1
  have hst : PO X (some (.UnaryOp .USub (.Constant (.int 1) k p1) p2)) (tPart (tUn (rU fun i => .int (-i)) (tC (.int 1)))) := po_some (pe_un un_neg pe_int)
  refine wpAny_Slice (thn (po_none.run pins s1 σ H1 (fun o H2 => o = none ∧ H2 = H1) I1 ⟨rfl, rfl⟩) fun vl s2 ⟨l, H2, I2, pl, el, e2⟩ => ?_)
  subst el e2
  refine thn (po_none.run pins s2 σ H2 (fun o H3 => o = none ∧ H3 = H2) I2 ⟨rfl, rfl⟩) fun vu s3 ⟨u, H3, I3, pu, eu, e3⟩ => ?_
  subst eu e3
  refine thn (hst.run pins s3 σ H3 (fun o H4 => o = some (-1) ∧ H4 = H3) I3 ⟨1, rfl, -1, rfl, rfl, rfl⟩) fun vs s4 ⟨o, H4, I4, ps, eo, e4⟩ => ?_
  subst eo e4
  have I5 : Inv X pins σ H4 { s4 with heap := s4.heap.push { cls := .type "slice", data := .fields #[vl, vu, vs] } } := I4.kept (t' := s4.toks) fun b ob q => Heap.get?_push_of_some _ q
  obtain ⟨its, r, tp, hz⟩ := I5.tuple hx
  have hlen := r.length
  show wpAny (model X.prog X.w) X.A (subscriptTail e (.Slice none none (some (.UnaryOp .USub (.Constant (.int 1) k p1) p2)) p3) (.ref a) (.ref s4.heap.objs.size)) (EP X pins σ Q) X.xe { s4 with heap := s4.heap.push { cls := .type "slice", data := .fields #[vl, vu, vs] } }
  refine tail_any (ops := [.ref a, .ref s4.heap.objs.size]) tp.typeIs (PyProof.Rows.slot_tuple_getitem.lookup) ?_ (by with_unfolding_all rfl)
  refine getItem_tuple_rev tp (Heap.IsSliceOf.new _ vl vu vs) pl pu ps ?_ (by rw [List.size_toArray]; omega)
  refine ⟨.ref _, _, I5.laid (t' := s4.toks) (o := .tup xs.reverse) (fun b ob q => Heap.get?_push_of_some _ q) (Nat.le_refl _) ?_, rfl, q _ (I5.hok.fresh (Nat.le_refl _))⟩
  exact ⟨by rw [List.length_reverse]; exact hz, _, r.reverse, ⟨_, Heap.get?_push_size _ rfl, rfl, _, rfl⟩⟩
end
end Lw

namespace Lw
open PySem PySem.Spec PyProof.Rows L2
/-! ### values that stand apart from the state -/
/-- what may stand in a tuple -/
def It1 (st : Addr) (H : Hp) (v : V) : Prop := (∃ z, v = .str z ∧ SOk z) ∨ (∃ i, v = .int i) ∨ v = .non ∨ (∃ a, ∃ zs : List Str, v = .ref a ∧ Ap H st a (.tup (zs.map V.str)) ∧ ∀ z ∈ zs, SOk z) ∨ (∃ a, ∃ zs : List Str, v = .ref a ∧ Ap H st a (.lst (zs.map V.str)) ∧ ∀ z ∈ zs, SOk z)
def It0 (st : Addr) (H : Hp) (v : V) : Prop := (∃ z, v = .str z ∧ SOk z) ∨ (∃ i, v = .int i) ∨ v = .non ∨ (∃ a, ∃ zs : List Str, v = .ref a ∧ Ap H st a (.tup (zs.map V.str)) ∧ ∀ z ∈ zs, SOk z)
theorem It0.to1 {st : Addr} {H : Hp} {v : V} (h : It0 st H v) : It1 st H v := by
  rcases h with h | h | h | h
  · exact .inl h
  · exact .inr (.inl h)
  · exact .inr (.inr (.inl h))
  · exact .inr (.inr (.inr (.inl h)))
theorem It0.kp {st : Addr} {H H' : Hp} {v : V} (k : Kp st H H') (h : It0 st H v) : It0 st H' v := by
  rcases h with h | h | h | ⟨a, zs, h1, h2, h3⟩
  · exact .inl h
  · exact .inr (.inl h)
  · exact .inr (.inr (.inl h))
  · exact .inr (.inr (.inr ⟨a, zs, h1, k _ _ h2, h3⟩))
/-- any value -/
def Cd (st : Addr) (H : Hp) (v : V) : Prop := (∃ a xs, v = .ref a ∧ Ap H st a (.tup xs) ∧ ∀ x ∈ xs, It1 st H x) ∨ (∃ z, v = .str z) ∨ v = .non ∨ (∃ b, v = .bl b) ∨ (∃ i, v = .int i) ∨ (∃ a xs, v = .ref a ∧ Ap H st a (.lst xs)) ∨ (∃ a kvs, v = .ref a ∧ Ap H st a (.dK kvs))
theorem It1.kp {st : Addr} {H H' : Hp} {v : V} (k : Kp st H H') (h : It1 st H v) : It1 st H' v := by
  rcases h with h | h | h | ⟨a, zs, h1, h2, h3⟩ | ⟨a, zs, h1, h2, h3⟩
  · exact .inl h
  · exact .inr (.inl h)
  · exact .inr (.inr (.inl h))
  · exact .inr (.inr (.inr (.inl ⟨a, zs, h1, k _ _ h2, h3⟩)))
  · exact .inr (.inr (.inr (.inr ⟨a, zs, h1, k _ _ h2, h3⟩)))
theorem Cd.kp {st : Addr} {H H' : Hp} {v : V} (k : Kp st H H') (h : Cd st H v) : Cd st H' v := by
  rcases h with ⟨a, xs, h1, h2, h3⟩ | h | h | h | h | ⟨a, xs, h1, h2⟩ | ⟨a, xs, h1, h2⟩
  · exact .inl ⟨a, xs, h1, k _ _ h2, fun x hx => (h3 x hx).kp k⟩
  · exact .inr (.inl h)
  · exact .inr (.inr (.inl h))
  · exact .inr (.inr (.inr (.inl h)))
  · exact .inr (.inr (.inr (.inr (.inl h))))
  · exact .inr (.inr (.inr (.inr (.inr (.inl ⟨a, xs, h1, k _ _ h2⟩)))))
  · exact .inr (.inr (.inr (.inr (.inr (.inr ⟨a, xs, h1, k _ _ h2⟩)))))
theorem It1.dp {K : PySem.W.Frag} {st : Addr} {H : Hp} {v : V} (h : It1 st H v) : ∃ d, Dp K H v d ∧ GoodD 1 d := by
  rcases h with ⟨z, rfl, hz⟩ | ⟨i, rfl⟩ | rfl | ⟨a, zs, rfl, h2, h3⟩ | ⟨a, zs, rfl, h2, h3⟩
  · exact ⟨_, .str z, good_str hz⟩
  · exact ⟨_, .int i, good_int i⟩
  · exact ⟨_, .non, good_none⟩
  · exact ⟨_, dp_strsT (Evl.st_of h2.1), good_strsT h3⟩
  · exact ⟨_, dp_strs (Evl.sq_of h2.1), good_strs h3⟩
theorem its_dp {K : PySem.W.Frag} {st : Addr} {H : Hp} : ∀ {xs : List V}, (∀ x ∈ xs, It1 st H x) → ∃ ds, DpAll K H xs ds ∧ ∀ d ∈ ds, GoodD 1 d
  | [], _ => ⟨[], .nil, fun _ h => by cases h⟩
  | x :: xs, h => by
    obtain ⟨d, h1, h2⟩ := (h x List.mem_cons_self).dp (K := K)
    obtain ⟨ds, h3, h4⟩ := its_dp (K := K) fun y hy => h y (List.mem_cons_of_mem _ hy)
    refine ⟨d :: ds, .cons h1 h3, fun e he => ?_⟩
    rcases List.mem_cons.mp he with rfl | he
    · exact h2
    · exact h4 e he
section
variable {K : PySem.W.Frag} {st a b : Addr} {H : Hp} {n : Nat} {xs ys : List V} {Q : VK}
theorem catA_ap (D : DS H st n) (ha : Ap H st a (.tup xs)) (hb : Ap H st b (.tup ys)) (hl : xs.length + ys.length ≤ 100000) (q : ∀ r H', DS H' st n → Kp st H H' → Ap H' st r (.tup (xs ++ ys)) → Q (.ref r) H') : rCatA K (.ref a) (.ref b) H Q := by
  refine ⟨a, b, xs, ys, rfl, rfl, Evl.st_of ha.1, Evl.st_of hb.1, Evl.sz_of hl, fun h0 => ?_, fun _ h0 => ?_, fun _ _ p np => ?_⟩
  · subst h0
    exact q b H D (Kp.refl _ _) hb
  · subst h0
    refine q a H D (Kp.refl _ _) ?_
    rw [List.append_nil]
    exact ha
  · exact q p _ (D.new np) (D.newK np) (D.fresh np)
theorem slA_ap {k : Nat} (D : DS H st n) (ha : Ap H st a (.tup xs)) (q : ∀ r H', DS H' st n → Kp st H H' → Ap H' st r (.tup (xs.take k)) → Q (.ref r) H') : rSlA K (.ref a) none (some (k : Int)) H Q := by
  refine ⟨a, xs, rfl, Evl.st_of ha.1, fun hw => ?_, fun _ p np => ?_⟩
  · refine q a H D (Kp.refl _ _) ?_
    rw [← cutV_to]
    have : cutV xs none (some (k : Int)) = xs := by
      unfold cutV
      rw [hw.1, hw.2, List.drop_zero, Nat.sub_zero, List.take_of_length_le (Nat.le_refl _)]
    rw [this]
    exact ha
  · rw [cutV_to]
    exact q p _ (D.new np) (D.newK np) (D.fresh np)
end
end Lw

namespace Lw
open PySem PySem.Spec PyProof.Rows L2
open PySem.Froz (SD sObj TxOk addTx tailTx)
/-! ### sets of texts -/
/-- at a: a set that holds the texts l -/
def SetT (P : Program) (w : World) (h : Heap) (a : Addr) (l : List Str) : Prop :=
  ∃ D : SD, h.get? a = some (sObj "set" D) ∧ TxOk P w D l ∧ l.Nodup ∧ Ris D.2.2.place.toList ∧ (w.params.followText "set-order" = true ∨ D.2.2.led = true)
theorem SetT.at {P : Program} {w : World} {h h' : Heap} {a : Addr} {l : List Str} (k : ∀ o, h.get? a = some o → h'.get? a = some o) (R : SetT P w h a l) : SetT P w h' a l := by
  obtain ⟨D, h1, r⟩ := R
  exact ⟨D, k _ h1, r⟩
theorem tail_ris (ep : Nat) (es : Array (Int × Value)) (t : SetTable) (d : Bool) (r : Ris t.place.toList) : Ris (tailTx ep es t d).2.2.place.toList := by
  unfold tailTx
  split
  · exact relayAll_ris _ _ _
  · exact r
theorem tail_led (ep : Nat) (es : Array (Int × Value)) (t : SetTable) (d : Bool) : (tailTx ep es t d).2.2.led = t.led := by
  unfold tailTx
  split
  · exact relayAll_led _ _ _
  · rfl
theorem addTx_ris (z : Int) (v : Value) (D : SD) (r : Ris D.2.2.place.toList) : Ris (addTx z v D).2.2.place.toList := by
  refine tail_ris _ _ _ _ ?_
  have h1 := layNew_ris D.2.2 D.1 z v r
  split
  · exact h1
  · exact h1
theorem addTx_led (z : Int) (v : Value) (D : SD) : (addTx z v D).2.2.led = D.2.2.led := by
  refine (tail_led _ _ _ _).trans ?_
  have h1 := layNew_led D.2.2 D.1 z v
  split
  · exact h1
  · exact h1
section
variable {P : Program} {w : World} {A : Around} {E : Value → Shared → Prop} {s : Shared} {a : Addr} {l : List Str} {k : Str} {u : Tok} {Q : Bool → Shared → Prop}
/-- a text that is there already is added: nothing comes of it -/
theorem old_add {D : SD} (ho : s.heap.get? a = some (sObj "set" D)) (F : TxOk P w D l) (hk : k ∈ l) (hb : l.length < scanBound) (h : Q false s) : wpAny (model P w) A (setAddHashed a (.str k u) (hashStr w k)) Q E s := by
  obtain ⟨es, ep, t⟩ := D
  have hd : (sObj "set" (es, ep, t)).data = .set es ep t := rfl
  have hf : t.fits es.size = true := F.fit
  have hel : ElemsOf (strKind P w) es.toList := F.el
  have hsz : es.size = l.length := F.sz
  have hkey : (strKind P w).is k (.str k u) = true := PySem.Froz.is_str k u
  obtain ⟨e, he, hie⟩ := (F.mem k).mp hk
  unfold setAddHashed setAddHashedIn
  refine wpAny_holding (wpAny_bind (wpAny_setState_of ho hd hf ?_))
  dsimp only
  rw [byScan_of rfl (by omega : es.size < scanBound) hel]
  simp only [↓reduceIte]
  unfold setAddByScan
  refine wpAny_bind (wpAny_bind (wpAny_rule (wpAny_bind (wpAny_setScan_of (knd := strKind P w) (k := k) hkey ho hd hf hel ?_))))
  cases hr : List.findIdx? (fun e => (strKind P w).is k e.2) es.toList with
  | none =>
    have := List.findIdx?_eq_none_iff.mp hr e he
    rw [hie] at this
    cases this
  | some j => exact wpAny_pure (wpAny_pure h)
theorem setT_add (R : SetT P w s.heap a l) (hb : l.length + 1 < scanBound)
    (h : ∀ b h' l', Heap.SameBut a s.heap h' → SetT P w h' a l' → (∀ z, z ∈ l' ↔ z = k ∨ z ∈ l) → l'.length ≤ l.length + 1 → Q b { s with heap := h' }) : wpAny (model P w) A (setAddHashed a (.str k u) (hashStr w k)) Q E s := by
  obtain ⟨D, ho, F, nd, r, hl⟩ := R
  by_cases hk : k ∈ l
  · refine old_add ho F hk (by omega) (h false s.heap l (Heap.SameBut.refl a s.heap) ⟨D, ho, F, nd, r, hl⟩ (fun z => ⟨.inr, fun q => q.elim (fun e => by rw [e]; exact hk) id⟩) (by omega))
  · refine PySem.Froz.add_x ho F hk hb (h true _ (k :: l) (Heap.SameBut.update s.heap a _) ⟨_, PySem.Froz.get_upd _ ho rfl, PySem.Froz.add_ok u F, List.nodup_cons.mpr ⟨hk, nd⟩, addTx_ris _ _ _ r, ?_⟩ (fun z => List.mem_cons) (Nat.le_refl _))
    rw [addTx_led]
    exact hl
end
section
variable {P : Program} {w : World} {A : Around} {I S : Addr} {fp wr : List Addr} {G : Array GenState → Array GenState → Prop} {n : Nat} {Pv : Nat → Value → Prop} {St : Nat → Shared → Prop} {R : Result → Shared → Prop}
/-- the texts of an iterator go into the set -/
theorem set_takes (W : WalksS P w A.in1 I fp wr G n Pv St) (out : S ∉ fp) (ws : List Str) (hn : n = ws.length) (hb : n + 1 < scanBound) (hval : ∀ i v, Pv i v → ∃ k u, ws[i]? = some k ∧ v = .str k u) :
    ∀ (m i : Nat) (s : Shared) (l : List Str), i + m = n → St i s → SetT P w s.heap S l → (∀ z, z ∈ l ↔ z ∈ ws.take i) → l.length ≤ i →
      (∀ s' l', Moved (S :: wr) G s s' → SetT P w s'.heap S l' → (∀ z, z ∈ l' ↔ z ∈ ws) → l'.length ≤ n → R (.ok (.ret .none)) s') →
      codeAny (model P w) A (.builtin "set.update.loop" ⟨[.ref S, .ref I], []⟩) R s := by
  have off : S ∉ wr := fun h => out (W.sub _ h)
  have more : ∀ b ∈ wr, b ∈ S :: wr := fun b h => List.mem_cons_of_mem _ h
  intro m
  induction m with
  | zero =>
    intro i s l hi hst hS hl hc hR
    obtain rfl : i = n := by omega
    refine codeAny_builtin F.entry_set_update_loop ?_
    rw [Around.under_plainId F.plain_set_update_loop _]
    show wpAny _ A.in1 (pyNext (.ref I) >>= _) _ _ s
    refine wpAny_bind (W.done s _ _ hst fun s' hm => wpAny_pure ?_)
    rw [List.take_of_length_le (Nat.le_of_eq hn.symm)] at hl
    exact hR s' l (hm.mono more) (hS.at fun o e => hm.heap S o off e) hl hc
  | succ m ih =>
    intro i s l hi hst hS hl hc hR
    refine codeAny_builtin F.entry_set_update_loop ?_
    rw [Around.under_plainId F.plain_set_update_loop _]
    show wpAny _ A.in1 (pyNext (.ref I) >>= _) _ _ s
    refine wpAny_bind (W.item i s _ _ (by omega) hst fun v s' hP hst' hm => ?_)
    obtain ⟨z, u, hz, rfl⟩ := hval i v hP
    show wpAny _ A.in1 (holding [Value.str z u] (setAdd S (.str z u)) >>= _) _ _ s'
    refine wpAny_bind (wpAny_holding ?_)
    unfold setAdd
    refine wpAny_holding (wpAny_bind ((strKind P w).pyHash (k := z) (PySem.Froz.is_str z u) ?_))
    refine setT_add (s := { s' with toks := s'.toks + 1 }) (l := l) (hS.at fun o e => hm.heap S o off e) (by omega) fun b h' l' sb hS2 hl2 hc2 => ?_
    refine wpAny_pure ⟨plainId_quiet F.plain_set_update_loop _, ih (i + 1) _ l' (by omega) (W.frame _ s' _ _ hst' (Nat.le_succ _) fun b hb o e => (sb.2 b fun q : b = S => out (by rw [← q]; exact hb)).trans e) hS2 (fun y => ?_) (by omega) fun s2 l2 hm2 => ?_⟩
    · rw [hl2 y, hl y, List.take_add_one, hz, List.mem_append]
      simp [or_comm]
    · exact hR s2 l2 (Moved.trans W.gtrans ((hm.mono more).then_heap (Nat.le_succ _) fun b o hb e => (sb.2 b fun q : b = S => hb (by rw [q]; exact List.mem_cons_self)).trans e) hm2)
end
section
variable {P : Program} {w : World} {A : Around} {E : Value → Shared → Prop} {s : Shared}
/-- set(x): the new set, then its __init__ -/
theorem callType_set {x : Value} {Q : Value → Shared → Prop}
    (h : wpAny (model P w) A.in1.in1 (Builtin.«set.__init__» ⟨[.ref s.heap.objs.size, x], []⟩)
        (fun fin s' => match fin with | .done f => wants (fun r s₂ => r = .none ∧ Q (.ref s.heap.objs.size) s₂) E (.ok f) s' | .again c' => c'.quiet = true ∧ codeAny (model P w) A.in1 c' (wants (fun r s₂ => r = .none ∧ Q (.ref s.heap.objs.size) s₂) E) s')
        (fun e s' => wants (fun r s₂ => r = .none ∧ Q (.ref s.heap.objs.size) s₂) E (.error e) s') { s with heap := s.heap.push { cls := .type "set", dict := none, data := .set #[] 0 (.fresh 0 0 (!w.params.followText "set-order")) } }) :
    wpAny (model P w) A (call (.type "set") [x]) Q E s := by
  have ft := F.called_set
  obtain ⟨c, tl, hmro⟩ := ft.mro
  have hmade := ft.made
  have hsub := ft.sub
  have hct := F.typeCall_set_1 x
  refine wpAny_call (codeAny_of_tree ?_)
  show wpAny _ _ (callAny (.type "set") _) _ _ _
  refine wpAny_pure ⟨Code.quiet_builtin _ (by decide +kernel), codeAny_builtin F.entry_type_call ?_⟩
  rw [Around.under_plain (weight_type_call_type "set" [x] []) rfl]
  have h1 := ft.notType
  have h2 := ft.canCreate
  repeat (any_goals (first | assumption | wp_step))
  refine codeAny_mono (code_set_led1 x (E := E) (Q₁ := fun obj s₁ => obj = .ref s.heap.objs.size ∧ s₁ = { s with heap := s.heap.push { cls := .type "set", dict := none, data := .set #[] 0 (.fresh 0 0 (!w.params.followText "set-order")) } }) ⟨rfl, rfl⟩) fun r s₁ hr => ?_
  cases r with
  | error e => exact hr
  | ok fl =>
    cases fl with
    | ret obj =>
      obtain ⟨rfl, rfl⟩ := hr
      have isSet : Shared.TypeIs { s with heap := s.heap.push { cls := .type "set", dict := none, data := .set #[] 0 (.fresh 0 0 (!w.params.followText "set-order")) } } (.ref s.heap.objs.size) "set" := ⟨_, Heap.get?_push_size _ rfl, rfl⟩
      have hli := ft.init.lookup
      have hbi := ft.init.bind (.ref s.heap.objs.size)
      repeat (any_goals (first | assumption | wp_step))
      refine codeAny_mono (codeAny_call_builtin (R := wants (fun r s₂ => r = .none ∧ Q (.ref s.heap.objs.size) s₂) E) ft.init.plain F.entry_set_init (check_set_init_1 isSet h)) fun r2 s2 hr2 => ?_
      cases r2 with
      | error e => exact hr2
      | ok fl2 =>
        cases fl2 with
        | ret r =>
          obtain ⟨rfl, hq⟩ := hr2
          repeat (any_goals (first | assumption | wp_step))
        | _ => exact hr2.elim
    | _ => exact hr.elim
/-- set(list of texts) -/
theorem call_setTx {p : Addr} {items : Array Value} {ws : List Str} {Q : Value → Shared → Prop} (hh : A.handled = none) (hl : s.heap.IsList p items) (hn : items.size = ws.length) (hb : ws.length + 1 < scanBound) (hval : ∀ (i : Nat) (v : Value), items[i]? = some v → ∃ k u, ws[i]? = some k ∧ v = .str k u)
    (h : ∀ (h' : Heap) (tk : Nat) (l : List Str), SetT P w h' s.heap.objs.size l → (∀ z, z ∈ l ↔ z ∈ ws) → l.length ≤ ws.length → (∀ b o, s.heap.get? b = some o → h'.get? b = some o) → Q (.ref s.heap.objs.size) { s with heap := h', toks := tk }) :
    wpAny (model P w) A (call (.type "set") [.ref p]) Q E s := by
  refine callType_set ?_
  have hS : (s.heap.push { cls := .type "set", dict := none, data := .set #[] 0 (.fresh 0 0 (!w.params.followText "set-order")) }).get? s.heap.objs.size = some { cls := .type "set", dict := none, data := .set #[] 0 (.fresh 0 0 (!w.params.followText "set-order")) } := Heap.get?_push_size _ rfl
  obtain ⟨ol, hol, hcl, nl, hdl⟩ := hl
  obtain ⟨ocls, odict, odata, oslots⟩ := ol
  simp only at hcl hdl
  subst hcl
  subst hdl
  have own : (s.heap.push { cls := .type "set", dict := none, data := .set #[] 0 (.fresh 0 0 (!w.params.followText "set-order")) }).get? p = some { cls := .type "list", dict := odict, data := .seq items nl, slots := oslots } := Heap.get?_push_of_some _ hol
  have isL : (s.heap.push { cls := .type "set", dict := none, data := .set #[] 0 (.fresh 0 0 (!w.params.followText "set-order")) }).IsList p items := ⟨_, own, rfl, nl, rfl⟩
  have s1 := F.sub_list_set
  have s2 := F.sub_list_frozenset
  have s3 : (Value.type "list" == Value.type "dict") = false := by decide
  unfold Builtin.«set.__init__» noKeywords Builtin.Frozenset.updateFrom
  generalize hPI : pyIter = PI
  wp_walk
  subst hPI
  refine wpAny_pyIter_list isL ?_
  refine wpAny_bind (wpAny_runValue ?_)
  have lt : p < s.heap.objs.size := Heap.lt_size hol
  have hz : (s.heap.push { cls := .type "set", dict := none, data := .set #[] 0 (.fresh 0 0 (!w.params.followText "set-order")) }).objs.size = s.heap.objs.size + 1 := Heap.size_push ..
  have calm : A.in1.in1.in1.handled = none := by simp [hh]
  have neI : p ≠ (s.heap.push { cls := .type "set", dict := none, data := .set #[] 0 (.fresh 0 0 (!w.params.followText "set-order")) }).objs.size := by
    rw [hz]
    exact Nat.ne_of_lt (Nat.lt_succ_of_lt lt)
  have outS : s.heap.objs.size ∉ [(s.heap.push { cls := .type "set", dict := none, data := .set #[] 0 (.fresh 0 0 (!w.params.followText "set-order")) }).objs.size, p] := by
    rw [hz]
    intro q
    rcases List.mem_cons.mp q with q | q
    · exact absurd q (Nat.ne_of_lt (Nat.lt_succ_self _))
    · exact absurd (List.mem_singleton.mp q) (Nat.ne_of_gt lt)
  refine set_takes ((Walks.list calm _ p neI items).toS) outS ws hn (by omega) hval items.size 0 _ [] (by omega) ⟨⟨_, Heap.get?_push_size _ rfl, rfl, rfl⟩, isL.push _⟩ ⟨(#[], 0, .fresh 0 0 (!w.params.followText "set-order")), Heap.get?_push_of_some _ hS, PySem.Froz.TxOk.nil (by rfl), List.nodup_nil, List.Pairwise.nil, ?_⟩ (fun z => by simp) (Nat.le_refl _) fun s' l' hm hS' hl' hc' => ?_
  · show _ ∨ (!w.params.followText "set-order") = true
    cases w.params.followText "set-order" <;> simp
  · obtain ⟨h', g2, d2, tk2, os2⟩ := s'
    have e1 : g2 = s.gens := hm.gens
    have e2 : d2 = s.drawn := hm.drawn
    have e3 : os2 = s.os := hm.os
    subst e1 e2 e3
    refine wpAny_pure (wpAny_pure ⟨rfl, h h' tk2 l' hS' hl' (by omega) fun b o e => hm.heap b o ?_ (Heap.get?_push_of_some _ (Heap.get?_push_of_some _ e))⟩)
    have lb := Heap.lt_size e
    rw [hz]
    intro q
    rcases List.mem_cons.mp q with q | q
    · exact absurd q (Nat.ne_of_lt lb)
    · exact absurd (List.mem_singleton.mp q) (Nat.ne_of_lt (Nat.lt_succ_of_lt lb))
end
end Lw

namespace Lw
open PySem PySem.Spec PyProof.Rows L2
open PySem.Froz (SD sObj TxOk addTx tailTx)
theorem perm_of_same : ∀ {l bs : List Str}, l.Nodup → (∀ z ∈ l, z ∈ bs) → bs.length ≤ l.length → bs.Perm l
  | [], bs, _, _, h => by
    rw [List.length_eq_zero_iff.mp (Nat.le_zero.mp h)]
  | x :: l, bs, nd, h, hl => by
    obtain ⟨hx, nd'⟩ := List.nodup_cons.mp nd
    have hm := h x List.mem_cons_self
    refine (List.perm_cons_erase hm).trans (List.Perm.cons x (perm_of_same nd' (fun z hz => ?_) ?_))
    · exact (List.mem_erase_of_ne fun e => hx (by rw [← e]; exact hz)).mpr (h z (List.mem_cons_of_mem _ hz))
    · rw [List.length_erase_of_mem hm]
      rw [List.length_cons] at hl
      omega
theorem srt_congr {a b : List Str} (h : a.Perm b) : srt a = srt b := by
  refine List.Perm.eq_of_pairwise (le := fun a b : Str => decide (a.cps.toList ≤ b.cps.toList) = true) (fun x y _ _ h1 h2 => ?_) (srt_sorted a) (srt_sorted b) (((srt_perm a).trans h).trans (srt_perm b).symm)
  exact str_ext (List.le_antisymm (of_decide_eq_true h1) (of_decide_eq_true h2))
theorem isStr_eq {z k : Str} {u : Tok} (h : Value.isStrOf z (.str k u) = true) : z = k := by
  unfold Value.isStrOf at h
  have := eq_of_beq h
  first
    | exact this
    | exact this.symm
/-- the text of a value -/
def strOf : Value → Str
  | .str k _ => k
  | _ => ""
section
open PySem.W PySem.Calls
variable {P : Program} {w : World} {A : Around} {E : Value → Shared → Prop} {s : Shared}
theorem each_str : ∀ {vs : List Value}, (∀ v ∈ vs, ∃ k u, v = .str k u) → EachIs (fun v (z : Str) => ∃ u, v = .str z u) vs (vs.map strOf)
  | [], _ => .nil
  | v :: vs, h => by
    obtain ⟨k, u, rfl⟩ := h v List.mem_cons_self
    exact .cons ⟨u, rfl⟩ (each_str fun y hy => h y (List.mem_cons_of_mem _ hy))
/-- sorted(s), s a set of texts: a new list -/
theorem sorted_setTx {a : Addr} {l : List Str} {Q : Value → Shared → Prop} (R : SetT P w s.heap a l) (hh : A.handled = none) (hb : l.length < 1000) (hu : A.units + 64 < cLine)
    (h : ∀ s' p (out : List Value) (c : Nat), (∀ b o, s.heap.get? b = some o → s'.heap.get? b = some o) → s'.gens = s.gens → s'.os = s.os → s.heap.objs.size ≤ p → s'.heap.get? p = some (seqObj "list" out.toArray c) →
      EachIs (fun v (z : Str) => ∃ u, v = .str z u) out (srt l) → Q (.ref p) s') :
    wpAny (model P w) A (call (.builtin "sorted") [.ref a]) Q E s := by
  obtain ⟨⟨es, ep, t⟩, ho, F, nd, ri, led⟩ := R
  have hsz : es.size = l.length := F.sz
  have hsb : es.size < scanBound := by
    have : (1000 : Nat) < scanBound := by unfold scanBound; decide
    omega
  refine Calls.call_function_entry kind_sorted plain_sorted entry_sorted (args_sorted1 _) ?_
  unfold Builtin.«sorted»
  refine wpAny_bind (m := checkCount "sorted" 1 1 _) (wpAny_pure ?_)
  refine wpAny_bind (collect_set (A := A.in1) hh ⟨_, ho, rfl, rfl⟩ F.fit hsb ri led fun s1 vs k1 hz g1 o1 pm => ?_)
  have isStr : ∀ v ∈ vs, ∃ k u, v = .str k u := fun v hv => by
    obtain ⟨e, he, rfl⟩ := List.mem_map.mp (pm.mem_iff.mp hv)
    obtain ⟨⟨k, hk, _⟩, _⟩ := F.el e he
    have hk' : Value.isStrOf k e.2 = true := hk
    cases hv2 : e.2 with
    | str z u => exact ⟨z, u, rfl⟩
    | _ =>
      rw [hv2] at hk'
      cases hk'
  have hvl : vs.length = l.length := by rw [pm.length_eq, List.length_map, Array.length_toList]; exact hsz
  have pl : (vs.map strOf).Perm l := perm_of_same nd (fun z hz => by
    obtain ⟨e, he, hie⟩ := (F.mem z).mp hz
    have hv := pm.mem_iff.mpr (List.mem_map_of_mem he)
    obtain ⟨k, u, hk⟩ := isStr e.2 hv
    rw [hk] at hie hv
    have : z = k := by
      have h2 : Value.isStrOf z (.str k u) = true := hie
      exact (isStr_eq h2)
    rw [this]
    exact List.mem_map_of_mem (f := strOf) hv) (by rw [List.length_map, hvl]; exact Nat.le_refl _)
  have hlL : vs.length ≤ sizeLine := by rw [hvl]; exact Evl.sz_of (by omega)
  refine wpAny_bind (wpAny_newList ?_ hlL)
  have hoL : (s1.heap.push (seqObj "list" vs.toArray 0)).get? s1.heap.objs.size = some (seqObj "list" vs.toArray 0) := Heap.get?_push_size _ rfl
  have e := each_str isStr
  have er : ∀ h0 : Heap, EachIs (fun v (z : Str) => ∃ as, Reads h0 v (PyData.str z) as) vs (vs.map strOf) := fun h0 => e.mono fun v z ⟨u, hv⟩ => ⟨[], by rw [hv]; exact .str z u⟩
  refine wpAny_bind (wpAny_holding (wpAny_call_entry_kw slot_list_sort ⟨_, hoL, rfl⟩ entry_list_sort ?_ (args_list_sort _)))
  refine list_sort_vals (s := { s1 with heap := s1.heap.push (seqObj "list" vs.toArray 0) }) hoL (SortsAt.data (each_map (R := fun v d => ∃ as, Reads (sortingHeap (s1.heap.push (seqObj "list" vs.toArray 0)) s1.heap.objs.size vs) v d as) PyData.str (er _)) (AllAlike.of fun _ _ => rfl) (Sortable.others fun _ => ⟨(by intro h; cases h), (by intro _ h; cases h)⟩) (bound_map fun z hz => ?_)) hlL ?_
  · show A.units + 2 + (PyData.str z).depth < cLine
    simp only [PyData.depth]
    omega
  · refine ⟨.none, rfl, ?_⟩
    obtain ⟨c, hc⟩ := sortedHeap_at (vs := vs) (out := (sortVals (dataKind (sortingHeap (s1.heap.push (seqObj "list" vs.toArray 0)) s1.heap.objs.size vs) ((vs.map strOf).map PyData.str)) false vs vs).toArray) hoL
    refine wpAny_pure ⟨_, rfl, h _ s1.heap.objs.size _ c (fun b u e2 => ?_) g1 o1 hz hc ?_⟩
    · have q := k1 b u e2
      have lt := Heap.lt_size q
      show (sortedHeap (s1.heap.push (seqObj "list" vs.toArray 0)) s1.heap.objs.size vs _).get? b = some u
      rw [sortedHeap_old (Nat.ne_of_lt lt) (by rw [size_push']; exact Nat.lt_succ_of_lt lt)]
      exact Heap.get?_push_of_some _ q
    · rw [← srt_congr pl]
      exact sortVals_data false e (er _) (AllAlike.of fun _ _ => rfl)
end
end Lw

namespace Lw
open PySem PySem.Spec PyProof.Rows L2
/-! ### sets of texts, over the layer -/
def SetTO (P : Program) (w : World) (a : Addr) (l : List Str) : HO := .ext fun h => SetT P w h a l
def rSetTx (K : PySem.W.Frag) (P : Program) (w : World) : List V → Hp → VK → Prop := fun vs H Q => ∃ (p : Addr) (ws : List Str), vs = [.ref p] ∧ SqL K H p (ws.map V.str) ∧ ws.length < 1000 ∧ ∀ a l, H a = none → (∀ z, z ∈ l ↔ z ∈ ws) → l.Nodup → Q (.ref a) (upd H a (SetTO P w a l))
def rSortTx (P : Program) (w : World) : List V → Hp → VK → Prop := fun vs H Q => ∃ (a : Addr) (l : List Str), vs = [.ref a] ∧ H a = some (SetTO P w a l) ∧ l.length < 1000 ∧ ∀ p, H p = none → Q (.ref p) (upd H p (.lst ((srt l).map V.str)))
section
variable {X : Cx}
theorem SetT.nodup {P : Program} {w : World} {h : Heap} {a : Addr} {l : List Str} (R : SetT P w h a l) : l.Nodup := by
  obtain ⟨D, _, _, nd, _⟩ := R
  exact nd
theorem setTO_ok {P : Program} {w : World} {H : Hp} {h : Heap} {a : Addr} {l : List Str} (R : SetT P w h a l) : ObjOk P w H h a (SetTO P w a l) := by
  obtain ⟨D, h1, r⟩ := id R
  exact ⟨R, ⟨_, h1⟩, fun h2 h3 q k => SetT.at k q⟩
theorem setTO_get {pins : List (Addr × Obj)} {σ : L2.St} {H : Hp} {s : Shared} {a : Addr} {l : List Str} (I : L2.Inv X pins σ H s) (ha : H a = some (SetTO X.prog X.w a l)) : SetT X.prog X.w s.heap a l := by
  have x : ObjOk X.prog X.w H s.heap a (.ext fun h => SetT X.prog X.w h a l) := I.hok a _ ha
  exact x.1
theorem cr_setTx (hc : X.calm = true) : CallR X (.type "set") (rSetTx X.K X.prog X.w) := by
  intro pins s σ H vs us Q I r h
  obtain ⟨p, ws, rfl, hq, hl, q⟩ := h
  obtain ⟨u, rfl, rx⟩ := vals1 r
  cases rx
  obtain ⟨its, rv, tp, hz⟩ := I.list hq
  have hn : its.length = ws.length := by rw [← rv.length, List.length_map]
  refine call_setTx (I.ok.hd hc) tp.isList (ws := ws) (by rw [List.size_toArray]; exact hn) (by unfold scanBound; omega) (fun i v hv => ?_) fun h' tk l hS hm hc' kk => ?_
  · have hv' : its[i]? = some v := by simpa using hv
    have hi : i < ws.length := by
      rw [← hn]
      exact (List.getElem?_eq_some_iff.mp hv').1
    obtain ⟨v2, e2, r2⟩ := rv.get (i := i) (x := .str ws[i]) (by rw [List.getElem?_map, List.getElem?_eq_getElem hi]; rfl)
    rw [hv'] at e2
    cases e2
    obtain ⟨t, rfl⟩ := r2
    exact ⟨ws[i], t, List.getElem?_eq_getElem hi, rfl⟩
  · exact ⟨.ref _, _, I.laid (t' := tk) (o := SetTO X.prog X.w s.heap.objs.size l) (fun b o e => kk b o e) (Nat.le_refl _) (setTO_ok hS), rfl, q _ l (I.hok.fresh (Nat.le_refl _)) hm hS.nodup⟩
theorem vals_each : ∀ {out : List Value} {ws : List Str}, PySem.W.EachIs (fun v (z : Str) => ∃ u, v = .str z u) out ws → Vals (ws.map V.str) out
  | _, _, .nil => .nil
  | _, _, .cons h t => .cons h (vals_each t)
theorem cr_sortTx (hc : X.calm = true) (hu : X.A.units + 64 < cLine) : CallR X (.builtin "sorted") (rSortTx X.prog X.w) := by
  intro pins s σ H vs us Q I r h
  obtain ⟨a, l, rfl, ha, hl, q⟩ := h
  obtain ⟨u, rfl, rx⟩ := vals1 r
  cases rx
  refine sorted_setTx (setTO_get I ha) (I.ok.hd hc) hl hu fun s' p out c k g o hp hat he => ?_
  have rv := vals_each he
  have hz : ((srt l).map V.str).length ≤ sizeLine := by
    rw [List.length_map, srt_len]
    exact Evl.sz_of (by omega)
  have np : H p = none := I.hok.fresh hp
  have J : Inv X pins σ (upd H p (.lst ((srt l).map V.str))) { s with heap := s'.heap, gens := s'.gens, drawn := s'.drawn, toks := s'.toks } :=
    I.call (ch := []) (Un.laid k hp np) (I.hok.laid k hp ⟨hz, out, c, rv, hat⟩) (by rw [g]; exact I.bare) (fun _ z => nomatch z)
  have e : s' = { s with heap := s'.heap, gens := s'.gens, drawn := s'.drawn, toks := s'.toks } := by
    cases s'
    cases s
    cases o
    rfl
  rw [e]
  exact ⟨.ref p, _, J, rfl, q p np⟩
end
end Lw

namespace Lw
open PySem PySem.Spec PyProof.Rows L2
/-! ### without doubles, in order -/
def dd : List Str → List Str
  | [] => []
  | x :: r => if x ∈ r then dd r else x :: dd r
theorem dd_mem : ∀ {l : List Str} {z : Str}, z ∈ dd l ↔ z ∈ l
  | [], _ => Iff.rfl
  | x :: r, z => by
    unfold dd
    split
    · rw [dd_mem, List.mem_cons]
      exact ⟨.inr, fun h => h.elim (fun e => by rw [e]; assumption) id⟩
    · rw [List.mem_cons, List.mem_cons, dd_mem]
theorem dd_nodup : ∀ l : List Str, (dd l).Nodup
  | [] => List.nodup_nil
  | x :: r => by
    unfold dd
    split
    · exact dd_nodup r
    · rename_i h
      exact List.nodup_cons.mpr ⟨fun k => h (dd_mem.mp k), dd_nodup r⟩
def sd (l : List Str) : List Str := srt (dd l)
theorem len_le_of {l : List Str} (nd : l.Nodup) : ∀ {b : List Str}, (∀ z ∈ l, z ∈ b) → l.length ≤ b.length := fun {b} h => by
  induction l generalizing b with
  | nil => exact Nat.zero_le _
  | cons x r ih =>
    obtain ⟨hx, nd'⟩ := List.nodup_cons.mp nd
    have hm := h x List.mem_cons_self
    have := ih nd' (b := b.erase x) fun z hz => (List.mem_erase_of_ne fun e => hx (by rw [← e]; exact hz)).mpr (h z (List.mem_cons_of_mem _ hz))
    rw [List.length_erase_of_mem hm] at this
    have hp : 0 < b.length := List.length_pos_of_mem hm
    rw [List.length_cons]
    omega
theorem sd_of {l ws : List Str} (nd : l.Nodup) (h : ∀ z, z ∈ l ↔ z ∈ ws) : srt l = sd ws :=
  srt_congr (perm_of_same (dd_nodup ws) (fun z hz => (h z).mpr (dd_mem.mp hz)) (len_le_of nd fun z hz => dd_mem.mpr ((h z).mp hz)))
/-! ### the parts of a split text -/
theorem joinL_part {S : List Nat} : ∀ {ps : List (List Nat)} {p : List Nat}, p ∈ ps → p.length ≤ (TL.joinL S ps).length ∧ ∀ c ∈ p, c ∈ TL.joinL S ps
  | [], _, h => by cases h
  | [q], p, h => by
    rw [List.mem_singleton.mp h]
    exact ⟨Nat.le_refl _, fun c hc => hc⟩
  | q :: r :: t, p, h => by
    show p.length ≤ (q ++ (S ++ TL.joinL S (r :: t))).length ∧ ∀ c ∈ p, c ∈ q ++ (S ++ TL.joinL S (r :: t))
    rcases List.mem_cons.mp h with rfl | h
    · refine ⟨by rw [List.length_append]; omega, fun c hc => List.mem_append.mpr (.inl hc)⟩
    · obtain ⟨h1, h2⟩ := joinL_part (S := S) h
      refine ⟨by rw [List.length_append, List.length_append]; omega, fun c hc => List.mem_append.mpr (.inr (List.mem_append.mpr (.inr (h2 c hc))))⟩
theorem joinL_len {S : List Nat} (hS : 0 < S.length) : ∀ ps : List (List Nat), ps.length ≤ (TL.joinL S ps).length + 1
  | [] => Nat.zero_le _
  | [q] => by
    show 1 ≤ q.length + 1
    omega
  | q :: r :: t => by
    have := joinL_len hS (r :: t)
    show (q :: r :: t).length ≤ (q ++ (S ++ TL.joinL S (r :: t))).length + 1
    rw [List.length_append, List.length_append, List.length_cons]
    omega
theorem split_join_tl (x : Str) : TL.joinL [32] ((Txt.split x " ").map TL.tl) = x.cps.toList := by
  have e := StrLaws.join_split x " "
  have e2 := TL.tl_join " " (Txt.split x " ")
  rw [e] at e2
  rw [show TL.tl (" " : Str) = [32] by decide +kernel] at e2
  exact e2.symm
theorem split_part {x p : Str} (h : p ∈ Txt.split x " ") : p.length ≤ x.length ∧ ∀ c ∈ p.cps.toList, c ∈ x.cps.toList := by
  have := joinL_part (S := [32]) (List.mem_map_of_mem (f := TL.tl) h)
  rw [split_join_tl] at this
  refine ⟨?_, this.2⟩
  rw [len_tl, len_tl]
  exact this.1
theorem split_len (x : Str) : (Txt.split x " ").length ≤ x.length + 1 := by
  have := joinL_len (S := [32]) (by decide) ((Txt.split x " ").map TL.tl)
  rw [split_join_tl, List.length_map] at this
  rw [len_tl]
  exact this
theorem spl_ne : ∀ (S : List Nat) (l : List Nat) (k : Nat) (acc : List Nat), TL.spl S k acc l ≠ []
  | S, [], k, acc => by
    cases k <;> simp [TL.spl]
  | S, c :: r, 0, acc => by
    unfold TL.spl
    split
    · simp
    · exact spl_ne S r 0 _
  | S, c :: r, k + 1, acc => by
    unfold TL.spl
    exact spl_ne S r k acc
theorem split_ne (x : Str) : 0 < (Txt.split x " ").length := by
  refine List.length_pos_iff.mpr fun e => ?_
  have h := TL.split_spl x " " (by decide +kernel) (TL.kind_ok (by decide +kernel))
  rw [e] at h
  exact spl_ne _ _ _ _ h.symm
theorem join_split1 (x : Str) : Txt.join " " (Txt.split x " ") = x := by
  rw [TL.join_eq]
  exact StrLaws.join_split x " "
section
open Evl
variable {K : PySem.W.Frag} {P : Program} {w : World} {σ : L2.St} {H : Hp} {te : TE}
theorem el_sortset {p : Addr} {ws : List Str} (h : Ev te σ H (.ref p)) (hx : SqL K H p (ws.map V.str)) (hl : ws.length < 1000) : EvL (tCB (rSortTx P w) (tCons (tCB (rSetTx K P w) (tCons te tNil)) tNil)) σ H ((sd ws).map V.str) := fun H1 e Q q =>
  h H1 e _ fun H2 e2 => ⟨p, ws, rfl, ex_l (e.trans e2) hx, hl, fun a l na hm nd => by
    have hc : l.length ≤ ws.length := len_le_of nd fun z hz => (hm z).mp hz
    refine ⟨a, l, rfl, upd_same, by omega, fun r nr => ?_⟩
    rw [sd_of nd hm]
    exact q r _ (fresh_back (e2.trans (Ex.new na)) nr) ((e2.trans (Ex.new na)).trans (Ex.new nr)) upd_same⟩
end
end Lw

namespace Lw
open PySem PySem.Spec PyProof.Rows L2
/-! ### joined texts: how long, of which signs -/
def Wd (ps : List Str) : Nat := (ps.map (·.length)).sum + ps.length
theorem wd_append (a b : List Str) : Wd (a ++ b) = Wd a + Wd b := by
  unfold Wd
  rw [List.map_append, List.sum_append, List.length_append]
  omega
theorem wd_take (k : Nat) (a : List Str) : Wd (a.take k) ≤ Wd a := by
  have := wd_append (a.take k) (a.drop k)
  rw [List.take_append_drop] at this
  omega
theorem wd_drop (k : Nat) (a : List Str) : Wd (a.drop k) ≤ Wd a := by
  have := wd_append (a.take k) (a.drop k)
  rw [List.take_append_drop] at this
  omega
theorem wd_rev (a : List Str) : Wd a.reverse = Wd a := by
  unfold Wd
  rw [List.map_reverse, List.sum_reverse, List.length_reverse]
theorem joinL_wd : ∀ ps : List (List Nat), (TL.joinL [32] ps).length ≤ (ps.map (·.length)).sum + ps.length ∧ (ps.map (·.length)).sum + ps.length ≤ (TL.joinL [32] ps).length + 1
  | [] => ⟨Nat.le_refl _, Nat.zero_le _⟩
  | [q] => by
    show q.length ≤ ([q].map (·.length)).sum + 1 ∧ ([q].map (·.length)).sum + 1 ≤ q.length + 1
    simp
  | q :: r :: t => by
    have ih := joinL_wd (r :: t)
    have e : (TL.joinL [32] (q :: r :: t)).length = q.length + (1 + (TL.joinL [32] (r :: t)).length) := by
      show (q ++ ([32] ++ TL.joinL [32] (r :: t))).length = _
      rw [List.length_append, List.length_append]
      rfl
    rw [e, List.map_cons, List.sum_cons, List.length_cons]
    omega
theorem joinL_mem : ∀ {ps : List (List Nat)} {c : Nat}, c ∈ TL.joinL [32] ps → c = 32 ∨ ∃ p ∈ ps, c ∈ p
  | [], _, h => by cases h
  | [q], c, h => .inr ⟨q, List.mem_cons_self, h⟩
  | q :: r :: t, c, h => by
    have h' : c ∈ q ++ ([32] ++ TL.joinL [32] (r :: t)) := h
    rcases List.mem_append.mp h' with h | h
    · exact .inr ⟨q, List.mem_cons_self, h⟩
    · rcases List.mem_append.mp h with h | h
      · exact .inl (List.mem_singleton.mp h)
      · rcases joinL_mem h with h | ⟨p, hp, hc⟩
        · exact .inl h
        · exact .inr ⟨p, List.mem_cons_of_mem _ hp, hc⟩
theorem join_codes (ps : List Str) : (Txt.join " " ps).cps.toList = TL.joinL [32] (ps.map TL.tl) := by
  rw [TL.join_eq]
  have e2 := TL.tl_join " " ps
  rw [show TL.tl (" " : Str) = [32] by decide +kernel] at e2
  exact e2
theorem wd_tl (ps : List Str) : ((ps.map TL.tl).map (·.length)).sum + (ps.map TL.tl).length = Wd ps := by
  unfold Wd
  rw [List.length_map, List.map_map]
  have e : ps.map ((fun x : List Nat => x.length) ∘ TL.tl) = ps.map (·.length) := List.map_congr_left fun z _ => (len_tl z).symm
  rw [e]
theorem join_wd (ps : List Str) : (Txt.join " " ps).length ≤ Wd ps := by
  rw [len_tl, join_codes, ← wd_tl]
  exact (joinL_wd _).1
theorem split_wd (x : Str) : Wd (Txt.split x " ") ≤ x.length + 1 := by
  rw [← wd_tl, len_tl, ← split_join_tl]
  exact (joinL_wd _).2
theorem join_sok {ps : List Str} (h : ∀ p ∈ ps, SOk p) : SOk (Txt.join " " ps) := fun c hc => by
  rw [join_codes] at hc
  rcases joinL_mem hc with rfl | ⟨p, hp, hc⟩
  · decide
  · obtain ⟨q, hq, rfl⟩ := List.mem_map.mp hp
    exact h q hq c hc
theorem cutV_from (xs : List V) (k : Nat) : cutV xs (some (k : Int)) none = xs.drop k := by
  unfold cutV HT.sIx
  have : ¬ ((k : Int) < 0) := by omega
  simp only [this, if_false]
  rw [show (k : Int).toNat = k from rfl]
  rcases Nat.lt_or_ge k xs.length with h | h
  · rw [Nat.min_eq_left (Nat.le_of_lt h), List.take_of_length_le (by rw [List.length_drop]; exact Nat.le_refl _)]
  · rw [Nat.min_eq_right h, List.drop_length, List.take_nil, List.drop_eq_nil_of_le h]
section
open Evl
variable {K : PySem.W.Frag} {σ : L2.St} {H : Hp} {te ta tb : TE} {xs ys : List V}
theorem el_cat (h : EvL ta σ H xs) (k : EvL tb σ H ys) (hz : xs.length + ys.length ≤ 100000) : EvL (tOp rCat ta tb) σ H (xs ++ ys) := fun H1 e Q q =>
  h H1 e _ fun p H2 np e2 hp => k H2 (e.trans e2) _ fun r H3 nr e3 hr => ⟨p, r, xs, ys, rfl, rfl, e3 _ _ hp, hr, sz_of hz, fun t nt => q t _ (fresh_back (e2.trans e3) nt) ((e2.trans e3).trans (Ex.new nt)) upd_same⟩
theorem el_rev (h : EvL te σ H xs) : EvL (tRevL K te) σ H xs.reverse := fun H1 e Q q =>
  h H1 e _ fun p H2 np e2 hp => ⟨p, xs, rfl, sq_of hp, fun t nt => q t _ (fresh_back e2 nt) (e2.trans (Ex.new nt)) upd_same⟩
theorem ev_joinL {sep : Str} {ws : List Str} (h : EvL te σ H (ws.map V.str)) (hz : (ws.map (·.length)).sum + ws.length * sep.length ≤ 16777216) :
    Ev (tM1 (fun x xs H Q => ∃ a p, ∃ ys : List Str, x = .str a ∧ xs = [.ref p] ∧ (SqL K H p (ys.map V.str) ∨ SqT K H p (ys.map V.str)) ∧ (ys.map (·.length)).sum + ys.length * a.length ≤ 16777216 ∧ Q (.str (Txt.join a ys)) H) (tC (.str sep)) te) σ H (.str (Txt.join sep ws)) := fun H1 e Q q =>
  ⟨⟨sep, rfl⟩, h H1 e _ fun p H2 np e2 hp => ⟨sep, p, ws, rfl, rfl, .inl (sq_of hp), hz, q H2 e2⟩⟩
end
end Lw

namespace Lw
open PySem PySem.Spec PyProof.Rows L2
/-! ### errors as values: C(x), e.f, isinstance(e, C) -/
def tMkV (C : Addr) (sp : Sp) (dvs : List V) (ta : TA) : TE := fun σ H Q => ta σ H fun vs H1 => vs.length ≤ 1000 ∧ ∀ a, H1 a = none → sp (.ref a :: (vs ++ dvs)) (upd H1 a (exo a C none)) (fun v H2 => v = .non ∧ Q (.ref a) H2) (fun _ _ _ => False)
section
variable {X : Cx} {e : Expr} {es : List Expr} {ta : TA} {p pos : Pos}
theorem pe_oex {CX : CXT} {x : Str} {C fI : Addr} {k : Nat} {fd : FuncData} {ps : List Str} {sp : Sp} {ds : List Value} {dvs : List V} (T : OexC X.K C) (iC : PySem.W.findIn X.K (.ref C) "__init__" = some (some (.ref fI))) (tI : PySem.W.typeIn X.K (.ref fI) = some (.type "function"))
    (F1 : FnOk X.prog X.w X.K X.mg X.base CX k fI fd ps sp) (hr : Room (k + 1) X.A) (hb : Binds X.K fd ps ds) (hd : Vals dvs ds) (hx : Passes CX X (fun _ _ _ => False)) (hg : Gl X x) (hm : X.mg x = some (.ref C)) (ha : PA X (e :: es) ta)
    (hdb : (x == ("__debug__" : Str)) = false := by decide) (he : starEach (e :: es) X.env = (false, eval e X.env) :: starEach es X.env := by rfl) (hpl : (backTo pos (starEach es X.env)).any (·.1) = false := by rfl) :
    PE X (.Call (.Name x p) (e :: es) [] pos) (tMkV C sp dvs ta) := by
  refine ⟨fun pins s σ H Q I h => ?_⟩
  obtain ⟨nm, q, N, bs, bm, sn, sub, ab, col, dd, k0, k1, k2, k3, k5, hC, hbm⟩ := T.cls
  refine wpAny_Call_Name_kw (ld_glob I hg hm ?_ hdb)
  refine PySem.W.callWith_K (h₀ := X.base) I.ok.mod.kin T.kC (thn (ha.run pos pins s σ H _ I h) fun us s1 ⟨vs, H1, I1, r1, hz, q1⟩ => ⟨I1.kIn, ?_⟩) he hpl
  show wpAny _ _ (call (.ref C) us) _ _ _
  obtain ⟨hp, g, dr, tk, os⟩ := s1
  have up1 : hp.objs.size ≤ hp.objs.size + 1 := Nat.le_succ _
  have hq := q1 (hp.objs.size + 1) (I1.hok.fresh up1)
  have old : ∀ b o, hp.get? b = some o → ((hp.push (PySem.W.kdv_tup us)).push (PySem.HandSPX.excO C hp.objs.size)).get? b = some o := fun b o e => Heap.get?_push_of_some _ (Heap.get?_push_of_some _ e)
  have here : ((hp.push (PySem.W.kdv_tup us)).push (PySem.HandSPX.excO C hp.objs.size)).get? (hp.objs.size + 1) = some (PySem.HandSPX.excO C hp.objs.size) := by heap_get
  have I2 : Inv X pins σ (upd H1 (hp.objs.size + 1) (exo (hp.objs.size + 1) C none)) ⟨(hp.push (PySem.W.kdv_tup us)).push (PySem.HandSPX.excO C hp.objs.size), g, dr, tk, os⟩ :=
    I1.laid (t' := tk) (a := hp.objs.size + 1) (o := exo (hp.objs.size + 1) C none) (h' := (hp.push (PySem.W.kdv_tup us)).push (PySem.HandSPX.excO C hp.objs.size)) old up1 (exo_ok here)
  have r2 : Vals (V.ref (hp.objs.size + 1) :: (vs ++ dvs)) (Value.ref (hp.objs.size + 1) :: (us ++ ds)) := .cons rfl (r1.append hd)
  have hl : (Value.ref (hp.objs.size + 1) :: us ++ ds).length = ps.length := by
    have e := r2.length
    rw [F1.len _ _ _ _ hq] at e
    exact e.symm
  have few : us.length ≤ sizeLine := by
    rw [← Paired.length r1, sizeLine_eq]
    omega
  refine wpAny_call (PySem.HandSPX.call_own F.excBase_ValueError (fun Y => PySem.HandSPX.refsVE_contains Y bm hbm) (I1.kIn _ _ hC) (PySem.W.looks_findIn I1.kIn iC) (fun self => PySem.W.bind_fn I1.kIn self tI) few
    (codeAny_mono (F1.run _ X.stack _ _ ⟨Value.ref (hp.objs.size + 1) :: us, []⟩ (Value.ref (hp.objs.size + 1) :: (us ++ ds)) _ _ (fun _ _ _ => False) (hr.make C us []) (I2.env0.make C us []) (hb _ (Value.ref (hp.objs.size + 1) :: us) I2.kIn hl) r2 hq) fun r s' hq' => ?_))
  cases r with
  | error er => exact hx pins σ _ _ er s' I2 hq'
  | ok fl =>
    cases fl with
    | ret u =>
      obtain ⟨v, H2, os2, bare2, un2, hok2, rv, ev, q2⟩ := hq'
      subst ev
      exact ⟨rv, .ref (hp.objs.size + 1), H2, I2.call' (ch := []) os2 un2 hok2 bare2 (fun _ z => nomatch z), rfl, q2⟩
    | next => exact False.elim hq'
    | brk => exact False.elim hq'
    | cont => exact False.elim hq'
/-- e.f of a made error -/
def tXv (C : Addr) (f : Str) (te : TE) : TE := fun σ H Q => te σ H fun x H1 => ∃ (a dx : Addr) (fs : List (Str × V)) (v : V), x = .ref a ∧ H1 a = some (exo a C (some dx)) ∧ H1 dx = some (exd dx fs) ∧ fs.lookup f = some v ∧ Q v H1
theorem pe_xv {C : Addr} {te : TE} {n : Str} (T : XfC X.K C) (hno : PySem.W.findIn X.K (.ref C) n = some none) (he : PE X e te) (hb : attributeBase e n X.env (eval e X.env) = eval e X.env := by rfl) : PE X (.Attribute e n pos) (tXv C n te) := by
  refine ⟨fun pins s σ H Q I h => ?_⟩
  refine attr_of hb (thn (he.run pins s σ H _ I h) fun u s1 hh => ?_)
  obtain ⟨x, H1, I1, rx, a, dx, fs, v, rfl, ha, hd, l, q⟩ := hh
  obtain rfl : u = Value.ref a := rx
  obtain ⟨t1, ho⟩ := exo_at I1.hok ha
  obtain ⟨mA, hns, hr⟩ := exd_at I1.hok hd
  obtain ⟨od, hod, hl⟩ := lookIn_ns hns
  obtain ⟨u, hu, ru⟩ := RelO.some_of (v := v) (o := mA n) (by rw [← l]; exact hr n)
  have J : PySem.W.InstAt s1.heap a { cls := .ref C, dict := some dx, data := .fields #[.ref t1, .none, .none, .none, .bool false, .none] } C (some od) := ⟨ho, rfl, rfl, hod⟩
  exact HandSPX.exc_get I1.kIn J T.ga T.gg T.exC (PySem.W.findObj_own T.hdC hno rfl (by rw [hl, hu])) (handed_of ru) ⟨v, H1, I1.tok _, ru, q⟩
/-- isinstance(e, c), e a made error -/
def rIsV (K : PySem.W.Frag) : List V → Hp → VK → Prop := fun xs H Q => ∃ (a D dx : Addr) (fs : List (Str × V)) (c : V) (cv : Value) (b : Bool), IsC K D ∧ H a = some (exo a D (some dx)) ∧ H dx = some (exd dx fs) ∧ xs = [.ref a, c] ∧ ClsV c cv ∧ PySem.W.kitOne K (.ref D) cv = some b ∧ Q (.bl b) H
theorem call_isV : CallR X (.builtin "isinstance") (rIsV X.K) := by
  intro pins s σ H xs us Q I r h
  obtain ⟨a, D, dx, fs, c, cv, b, C, ha, hd, rfl, hcv, e, q⟩ := h
  cases r with
  | cons rx rr =>
    cases rr with
    | cons rt rr =>
      cases rr
      cases rx
      have ec := hcv.eq rt
      subst ec
      obtain ⟨t1, ho⟩ := exo_at I.hok ha
      obtain ⟨mA, hns, _⟩ := exd_at I.hok hd
      obtain ⟨od, hod, _⟩ := lookIn_ns hns
      obtain ⟨gt, hgt⟩ := C.gt
      have J : PySem.W.InstAt s.heap a { cls := .ref D, dict := some dx, data := .fields #[.ref t1, .none, .none, .none, .bool false, .none] } D (some od) := ⟨ho, rfl, rfl, hod⟩
      exact PySem.W.kia_one (PySem.W.kitx_exc C.cl C.ga hgt C.sb C.ca C.sn C.tk C.mo) I.kIn J e (by cases hcv <;> exact fun z => nomatch z) fun tk => ⟨.bl b, H, I.kept (t' := tk) fun _ _ z => z, rfl, q⟩
end
end Lw

namespace Lw
open PySem PySem.Spec PyProof.Rows L2
/-! ### the facts of one class of errors, told at once -/
theorem erc_mk {P : Program} {w : World} {K : PySem.W.Frag} {hh : Heap} {mg : Str → Option Value} (X : K.In hh) (G : hh.Ns mainGlobals mg) {c f qn : Str} (st : Stmt)
    (ok : ∀ {fI : Addr} {fd : FuncData} {C : Addr} {base : Heap}, Fun K "__init__" qn st fI fd → OexC K C → PySem.W.findIn K (.ref C) f = some none → FnOk P w K mg base CX0 1 fI fd ["self", f] (sp_init1 K C f))
    (bi : ∀ {fI : Addr} {fd : FuncData}, Fun K "__init__" qn st fI fd → Binds K fd ["self", f] [])
    {C I N E : Addr} {nm q : Str} {bs sub : List Value} {sn : List Str} {ab : Bool} {col : Option Bool} {dd : Option Addr} {m0 m1 m2 m3 m5 : Option Value} {od an : Option Addr} {sl : Array (Option Value)} {oc kV dc pm cd ct : Value}
    (aC : PySem.W.nsIn K mainGlobals c = some (some (.ref C)))
    (xL : K.lookup C = some (excClassObj nm q C N bs (.ref E :: [.type "ValueError", .type "Exception", .type "BaseException", .type "object"]) true sn sub ab col dd m0 m1 m2 m3 m5 "ValueError.__new__"))
    (sa : PySem.W.findIn K (.ref C) "__setattr__" = some (some (.builtin "object.__setattr__"))) (ga : PySem.W.findIn K (.ref C) "__getattribute__" = some (some (.builtin "BaseException.__getattribute__"))) (gg : PySem.W.findIn K (.ref C) "__getattr__" = some none) (nb : PySem.W.findIn K (.ref C) f = some none)
    (iC : PySem.W.findIn K (.ref C) "__init__" = some (some (.ref I))) (tI : PySem.W.typeIn K (.ref I) = some (.type "function")) (kC : PySem.W.keepIn K (.ref C) = true) (eC : PySem.W.subIn K (.ref C) (.type "BaseException") = some true) (tC : PySem.W.typeIn K (.ref C) = some (.type "type")) (hC : PySem.W.hasDictIn K C = true)
    (cA : PySem.W.findIn K (.ref C) "__class__" = some (some (.builtin "object.__class__"))) (mo : PySem.W.mroIn K C (.type "object") = some true)
    (lI : K.lookup I = some ⟨oc, od, .func (PySem.W.fnOf "__init__" qn (defArgs st) (defBody st) (defScope st) .none kV dc pm an cd ct), sl⟩) (dI : PySem.W.codeIn K cd qn = true) (kI : PySem.W.keepIn K (.ref I) = true)
    (gsn : PySem.W.specialIn K (.builtin "object.__class__") "__get__" = some (some (.builtin "getset_descriptor.__get__"))) (gtk : PySem.W.takesIn K (.builtin "object.__class__") = some true) :
    ∀ base : Heap, ErC P w K mg base c f C I (PySem.W.fnOf "__init__" qn (defArgs st) (defBody st) (defScope st) .none kV dc pm an cd ct) := fun base => by
  have O : OexC K C := ⟨⟨_, _, _, _, _, _, _, _, _, _, _, _, _, _, _, xL, by first | rfl | decide +kernel⟩, sa, eC, tC, kC⟩
  have FI := fun_mk (st := st) lI dI kI
  exact ⟨O, ⟨ga, gg, eC, hC⟩, ⟨by unfold PySem.W.clsIn; rw [xL] <;> rfl, ga, ⟨_, gg⟩, eC, cA, gsn, gtk, mo⟩, iC, tI, nb, PySem.W.mg_of X G aC, ok FI O nb, bi FI⟩
end Lw

/-! ### an own error made with keywords: the class is called as type.__call__ does, its keywords go on to __init__ -/
namespace PySem
namespace HandSPX
open Builtin Builtin.ObjectAttr
section
variable {prog : Program} {w : World} {A : Around} {E : Value → Shared → Prop} {R : Result → Shared → Prop} {h : Heap} {g : Array GenState} {d : Drawn} {t : Nat} {os : OsState} {kw : List (Str × Value)}
variable {nm q : Str} {C N : Addr} {bs bm bmB : List Value} {hdct : Bool} {sn : List Str} {sub : List Value} {ab : Bool} {col : Option Bool} {dd : Option Addr} {k0 k1 k2 k3 k5 : Option Value} {B newId initId : String}
theorem lw_in (hT : ∀ X : String, bm.contains (.type X) = bmB.contains (.type X)) {Y : String} {b : Bool} (e : bmB.contains (.type Y) = b) : (Value.ref C :: bm).contains (.type Y) = b := by
  rw [List.contains_cons, hT, e]; rfl
theorem lw_check (F : ExcBaseFacts B newId initId bmB) (hT : ∀ X : String, bm.contains (.type X) = bmB.contains (.type X)) {M : Model} {vs : List Value} {Q : Unit → Shared → Prop} (hC : h.get? C = some (excClassObj nm q C N bs bm hdct sn sub ab col dd k0 k1 k2 k3 k5 newId)) (hq : Q () ⟨h, g, d, t, os⟩) :
    wpAny M A (checkBuiltinCall newId ⟨.ref C :: vs, kw⟩) Q E ⟨h, g, d, t, os⟩ := by
  have c1 : (Value.ref C :: bm).contains (.type B) = true := lw_in hT F.hasB
  have c2 := F.noStar
  simp only [checkBuiltinCall, F.newKind, F.newSplit, F.newRow]
  iterate 60 (first | refine wpAny_loadPart_at hC ?_ | (refine wpAny_isSubtype_exc hC ?_; rw [c1]) | refine wpAny_staticBase_exc hC ?_ | refine wpAny_madeBy_exc hC ?_ | simp only [bne_self_eq_false, Bool.false_eq_true, if_false] | wp_step | skip)
  exact hq
theorem lw_new (F : ExcBaseFacts B newId initId bmB) (hT : ∀ X : String, bm.contains (.type X) = bmB.contains (.type X)) {vs : List Value} (hC : h.get? C = some (excClassObj nm q C N bs bm hdct sn sub ab col dd k0 k1 k2 k3 k5 newId))
    (hq : R (.ok (.ret (.ref (h.objs.size + 1)))) ⟨(h.push (W.kdv_tup vs)).push (excO C h.objs.size), g, d, t, os⟩) (hz : vs.length ≤ sizeLine) : codeAny (model prog w) A (.builtin newId ⟨.ref C :: vs, kw⟩) R ⟨h, g, d, t, os⟩ := by
  have c0 := F.ends
  have cB : (Value.ref C :: bm).contains (.type B) = true := lw_in hT F.hasB
  have cA : (Value.ref C :: bm).contains (.type "AttributeError") = false := lw_in hT F.noAttr
  have cN : (Value.ref C :: bm).contains (.type "NameError") = false := lw_in hT F.noName
  refine codeAny_builtinAt F.entry ?_
  unfold Builtin.«BaseException.__new__»
  refine wpAt_bind ?_
  show wpAt _ _ _ (stack >>= _) _ _ _
  refine wpAt_bind (wpAt_stack fun p below => wpAt_of_wpAny ?_)
  wp_walk
  refine wpAt_of_wpAny ?_
  rw [F.owner]
  iterate 200 (first | with_reducible refine wpAny_madeHere_exc F.canon hC ?_ | with_reducible refine wpAny_loadPart_at hC ?_ | (with_reducible refine wpAny_isSubtype_exc hC ?_; first | rw [cB] | rw [cA] | rw [cN]) | wp_step | skip)
  show R _ _
  rw [Heap.size_push]
  exact hq
end
end HandSPX
end PySem

namespace PySem
namespace HandSPX
open Builtin Builtin.ObjectAttr
section
variable {prog : Program} {w : World} {A : Around} {E : Value → Shared → Prop} {R : Result → Shared → Prop} {h : Heap} {g : Array GenState} {d : Drawn} {t : Nat} {os : OsState} {kw : List (Str × Value)}
variable {nm q : Str} {C N : Addr} {bs bm bmB : List Value} {hdct : Bool} {sn : List Str} {sub : List Value} {ab : Bool} {col : Option Bool} {dd : Option Addr} {k0 k1 k2 k3 k5 : Option Value} {B newId initId : String}
theorem lw_type_call (F : ExcBaseFacts B newId initId bmB) (hT : ∀ X : String, bm.contains (.type X) = bmB.contains (.type X)) {vs : List Value} {fI : Addr} {Q : Fin → Shared → Prop}
    (hC : h.get? C = some (excClassObj nm q C N bs bm hdct sn sub ab col dd k0 k1 k2 k3 k5 newId)) (hi : W.Looks (model prog w) h (typeLookup (.ref C) "__init__") (some (.ref fI))) (hb : ∀ self, W.Looks (model prog w) h (bindSpecial (.ref fI) self) (.ref fI, [self])) (hz : vs.length ≤ sizeLine)
    (hq : codeAny (model prog w) A (.call (.ref fI) ⟨.ref (h.objs.size + 1) :: vs, kw⟩) (fun r s' => match r with | .ok (.ret v) => v = .none ∧ Q (.done (.ret (.ref (h.objs.size + 1)))) s' | .ok _ => False | .error e => E e s') ⟨(h.push (W.kdv_tup vs)).push (excO C h.objs.size), g, d, t, os⟩) :
    wpAny (model prog w) A (Builtin.«type.__call__» ⟨.ref C :: vs, kw⟩) Q E ⟨h, g, d, t, os⟩ := by
  iterate 100 (first | with_reducible refine wpAny_loadPart_at hC ?_ | with_reducible refine wpAny_madeBy_exc hC ?_ | wp_step | skip)
  refine codeAny_call_builtin_code (Code.quiet_builtin _ F.quiet) (lw_check F hT hC ?_)
  refine lw_new F hT hC ?_ hz
  show wpAny _ _ _ _ _ _
  have up : ∀ b o, h.get? b = some o → ((h.push (W.kdv_tup vs)).push (excO C h.objs.size)).get? b = some o := fun b o e => Heap.get?_push_of_some _ (Heap.get?_push_of_some _ e)
  have hC2 := up _ _ hC
  have hx : ((h.push (W.kdv_tup vs)).push (excO C h.objs.size)).get? (h.objs.size + 1) = some (excO C h.objs.size) := by heap_get
  have cc : (Value.ref C :: bm).contains (.ref C) = true := by simp
  have li := hi.keeps up
  have lb := (hb (.ref (h.objs.size + 1))).keeps up
  unfold isInstance
  iterate 100 (first | with_reducible refine wpAny_loadPart_at hx ?_ | (with_reducible refine wpAny_isSubtype_exc hC2 ?_; rw [cc]) | wp_step | skip)
  show wpAny _ _ (typeLookup (.ref C) _) _ _ _
  refine li.at ?_
  refine wpAny_holding (wpAny_bind (lb.at ?_))
  refine wpAny_bind (wpAny_call (codeAny_mono hq fun r s' z => ?_))
  rcases r with e | (_ | v | _ | _)
  all_goals first
    | exact z
    | exact z.elim
    | (obtain ⟨rfl, z⟩ := z; first | exact wpAny_pure (wpAny_pure z) | (wp_walk; exact z))
    | (have y := z.2; have y1 := z.1; subst y1; first | exact wpAny_pure (wpAny_pure y) | (wp_walk; exact y))
theorem lw_check_type {M : Model} {vs : List Value} {Q : Unit → Shared → Prop} (hC : h.get? C = some (excClassObj nm q C N bs bm hdct sn sub ab col dd k0 k1 k2 k3 k5 newId)) (hq : Q () ⟨h, g, d, t, os⟩) : wpAny M A (checkBuiltinCall "type.__call__" ⟨.ref C :: vs, kw⟩) Q E ⟨h, g, d, t, os⟩ := by
  have t1 := tc_sub
  have t2 : (⟨h, g, d, t, os⟩ : Shared).TypeIs (.ref C) "type" := ⟨_, hC, rfl⟩
  simp only [checkBuiltinCall, tc_kind, tc_split]
  repeat (any_goals (first | assumption | with_reducible refine wpAny_map ?_ | with_reducible refine wpAny_onRaise ?_ | with_reducible refine wpAny_loadPart_at hC ?_ | wp_step))
theorem lw_call (F : ExcBaseFacts B newId initId bmB) (hT : ∀ X : String, bm.contains (.type X) = bmB.contains (.type X)) {vs : List Value} {fI : Addr}
    (hC : h.get? C = some (excClassObj nm q C N bs bm hdct sn sub ab col dd k0 k1 k2 k3 k5 newId)) (hi : W.Looks (model prog w) h (typeLookup (.ref C) "__init__") (some (.ref fI))) (hb : ∀ self, W.Looks (model prog w) h (bindSpecial (.ref fI) self) (.ref fI, [self])) (hz : vs.length ≤ sizeLine)
    (hq : codeAny (model prog w) (A.under (.builtin "type.__call__" ⟨.ref C :: vs, kw⟩)) (.call (.ref fI) ⟨.ref (h.objs.size + 1) :: vs, kw⟩) (W.InitBack (h.objs.size + 1) R) ⟨(h.push (W.kdv_tup vs)).push (excO C h.objs.size), g, d, t, os⟩) :
    codeAny (model prog w) A (.call (.ref C) ⟨vs, kw⟩) R ⟨h, g, d, t, os⟩ := by
  have s1 := tc_lookup
  have s2 := tc_bind (.ref C)
  have hTy : (⟨h, g, d, t, os⟩ : Shared).TypeIs (.ref C) "type" := ⟨_, hC, rfl⟩
  refine codeAny_of_tree ?_
  show wpAny _ _ (callAny (.ref C) _) _ _ _
  repeat (any_goals (first | with_reducible refine wpAny_loadPart_at hC ?_ | assumption | wp_step))
  refine ⟨rfl, ?_⟩
  refine codeAny_call_builtin_at (Code.quiet_builtin _ (by decide +kernel)) entry_typeCall ?_
  exact lw_check_type hC (lw_type_call F hT hC hi hb hz (codeAny_mono hq fun r s' z => by rcases r with e | (v | _ | _ | _) <;> exact z))
end
end HandSPX
end PySem

namespace Lw
open PySem PySem.Spec PyProof.Rows L2
def tMkVK (C : Addr) (sp : Sp) (gV : List V → List V → List V) (tk : TA) : TE := fun σ H Q => tk σ H fun zs H1 => ∀ a, H1 a = none → sp (gV [.ref a] zs) (upd H1 a (exo a C none)) (fun v H2 => v = .non ∧ Q (.ref a) H2) (fun _ _ _ => False)
section
variable {X : Cx} {p pos : Pos}
/-- C(k = v, ..) -/
theorem pe_oexK {CX : CXT} {x : Str} {C fI : Addr} {k : Nat} {fd : FuncData} {ps ks : List Str} {sp : Sp} {kws : List Keyword} {tk : TA} {g : List Value → List Value → List Value} {gV : List V → List V → List V} (T : OexC X.K C) (iC : PySem.W.findIn X.K (.ref C) "__init__" = some (some (.ref fI))) (tI : PySem.W.typeIn X.K (.ref fI) = some (.type "function"))
    (F1 : FnOk X.prog X.w X.K X.mg X.base CX k fI fd ps sp) (hr : Room (k + 1) X.A) (hb : KBinds X.K fd ps ks g gV) (hx : Passes CX X (fun _ _ _ => False)) (hg : Gl X x) (hm : X.mg x = some (.ref C)) (hkw : PK X kws tk)
    (hall : (backToKw pos (keywordEach kws X.env)).all (·.1.isSome) = true := by rfl) (hks : (backToKw pos (keywordEach kws X.env)).filterMap (·.1) = ks := by rfl) (hdb : (x == ("__debug__" : Str)) = false := by decide)
    (hpl : ((backTo pos (starEach [] X.env)).any (·.1) || (backToKw pos (keywordEach kws X.env)).any (·.1.isNone)) = false := by rfl) :
    PE X (.Call (.Name x p) [] kws pos) (tMkVK C sp gV tk) := by
  refine ⟨fun pins s σ H Q I h => ?_⟩
  obtain ⟨nm, q, N, bs, bm, sn, sub, ab, col, dd, k0, k1, k2, k3, k5, hC, hbm⟩ := T.cls
  refine wpAny_Call_Name_kw (ld_glob I hg hm ?_ hdb)
  refine PySem.W.callWith_KW0 (h₀ := X.base) I.ok.mod.kin T.kC hall ?_ hpl
  refine thn (hkw.run pos pins s σ H _ I h) fun ws s1 ⟨zs, H1, I1, rz, q1⟩ => ⟨I1.kIn, ?_⟩
  rw [hks]
  show wpAny _ _ (call (.ref C) [] (ks.zip ws)) _ _ _
  obtain ⟨hp, g', dr, tk', os⟩ := s1
  have up1 : hp.objs.size ≤ hp.objs.size + 1 := Nat.le_succ _
  have hq := q1 (hp.objs.size + 1) (I1.hok.fresh up1)
  have old : ∀ b o, hp.get? b = some o → ((hp.push (PySem.W.kdv_tup [])).push (PySem.HandSPX.excO C hp.objs.size)).get? b = some o := fun b o e => Heap.get?_push_of_some _ (Heap.get?_push_of_some _ e)
  have here : ((hp.push (PySem.W.kdv_tup [])).push (PySem.HandSPX.excO C hp.objs.size)).get? (hp.objs.size + 1) = some (PySem.HandSPX.excO C hp.objs.size) := by heap_get
  have I2 : Inv X pins σ (upd H1 (hp.objs.size + 1) (exo (hp.objs.size + 1) C none)) ⟨(hp.push (PySem.W.kdv_tup [])).push (PySem.HandSPX.excO C hp.objs.size), g', dr, tk', os⟩ :=
    I1.laid (t' := tk') (a := hp.objs.size + 1) (o := exo (hp.objs.size + 1) C none) (h' := (hp.push (PySem.W.kdv_tup [])).push (PySem.HandSPX.excO C hp.objs.size)) old up1 (exo_ok here)
  have r1 : Vals [V.ref (hp.objs.size + 1)] [Value.ref (hp.objs.size + 1)] := .cons rfl .nil
  have r2 := hb.rel r1 rz
  have hl : (g [Value.ref (hp.objs.size + 1)] ws).length = ps.length := by
    rw [← r2.length]
    exact F1.len _ _ _ _ hq
  refine wpAny_call (PySem.HandSPX.lw_call F.excBase_ValueError (fun Y => PySem.HandSPX.refsVE_contains Y bm hbm) (I1.kIn _ _ hC) (PySem.W.looks_findIn I1.kIn iC) (fun self => PySem.W.bind_fn I1.kIn self tI) (Nat.zero_le _)
    (codeAny_mono (F1.run _ X.stack _ _ ⟨[Value.ref (hp.objs.size + 1)], ks.zip ws⟩ (g [Value.ref (hp.objs.size + 1)] ws) _ _ (fun _ _ _ => False) (hr.make C [] (ks.zip ws)) (I2.env0.make C [] (ks.zip ws)) (hb.to _ [Value.ref (hp.objs.size + 1)] ws I2.kIn hl) r2 hq) fun r s' hq' => ?_))
  cases r with
  | error er => exact hx pins σ _ _ er s' I2 hq'
  | ok fl =>
    cases fl with
    | ret u =>
      obtain ⟨v, H2, os2, bare2, un2, hok2, rv, ev, q2⟩ := hq'
      subst ev
      exact ⟨rv, .ref (hp.objs.size + 1), H2, I2.call' (ch := []) os2 un2 hok2 bare2 (fun _ z => nomatch z), rfl, q2⟩
    | next => exact False.elim hq'
    | brk => exact False.elim hq'
    | cont => exact False.elim hq'
/-- C(), an own class of errors without __init__ -/
theorem pe_oex0 {C : Addr} {bmB : List Value} {B newId initId : String} {x : Str} (F : ExcBaseFacts B newId initId bmB) (q : PySem.W.excIn X.K C bmB newId = true) (gC : X.mg x = some (.ref C)) (kC : PySem.W.keepIn X.K (.ref C) = true) (hg : Gl X x)
    (hdb : (x == ("__debug__" : Str)) = false := by decide) : PE X (.Call (.Name x p) [] [] pos) (fun σ H Q => ∀ a, H a = none → Q (.ref a) (upd H a (exo a C none))) := by
  refine ⟨fun pins s σ H Q I h => ?_⟩
  refine wpAny_Call_Name_kw (ld_glob I hg gC ?_ hdb)
  refine PySem.W.callWith_K0 I.kIn kC ?_
  obtain ⟨bm, N, nm, qn, bs, hdct, sn, sub, ab, col, dd, k0, k1, k2, k3, k5, mN, hC, hN, hni, T⟩ := exc_obj I.kIn q
  refine wpAny_call_exc_subT F T hC hN hni (fun h' a hm => ?_) (Nat.zero_le _)
  have hn : H a = none := I.hok.gone hm.new
  obtain ⟨t, ht, _, _⟩ := hm.there
  exact ⟨.ref a, upd H a (exo a C none), I.laidN hm.keeps hm.new hn (exo_ok (t1 := t) ht), rfl, h a hn⟩
/-- __init__(self, f, g): self.f = f; self.g = g -/
def sp_init2 (K : PySem.W.Frag) (C : Addr) (f1 f2 : Str) : Sp := fun vs H Q _ => ∃ (a : Addr) (y z : V), vs = [.ref a, y, z] ∧ H a = some (exo a C none) ∧ ∀ dx, H dx = none → dx ≠ a → Q .non (upd (upd (upd H dx (exd dx [(f1, y)])) a (exo a C (some dx))) dx (exd dx [(f2, z), (f1, y)]))
/-- isinstance(e, c), e a made error -/
def rIsW (K : PySem.W.Frag) : List V → Hp → VK → Prop := fun xs H Q => ∃ (a D : Addr) (d : Option Addr) (c : V) (cv : Value) (b : Bool), IsC K D ∧ H a = some (exo a D d) ∧ (∀ dx, d = some dx → ∃ fs, H dx = some (exd dx fs)) ∧ xs = [.ref a, c] ∧ ClsV c cv ∧ PySem.W.kitOne K (.ref D) cv = some b ∧ Q (.bl b) H
theorem call_isW : CallR X (.builtin "isinstance") (rIsW X.K) := by
  intro pins s σ H xs us Q I r h
  obtain ⟨a, D, d, c, cv, b, C, ha, hd, rfl, hcv, e, q⟩ := h
  cases r with
  | cons rx rr =>
    cases rr with
    | cons rt rr =>
      cases rr
      cases rx
      have ec := hcv.eq rt
      subst ec
      obtain ⟨t1, ho⟩ := exo_at I.hok ha
      obtain ⟨gt, hgt⟩ := C.gt
      obtain ⟨od, J⟩ : ∃ od : Option Obj, PySem.W.InstAt s.heap a { cls := .ref D, dict := d, data := .fields #[.ref t1, .none, .none, .none, .bool false, .none] } D od := by
        cases d with
        | none => exact ⟨none, ho, rfl, rfl, trivial⟩
        | some dx =>
          obtain ⟨fs, hdx⟩ := hd dx rfl
          obtain ⟨mA, hns, _⟩ := exd_at I.hok hdx
          obtain ⟨od, hod, _⟩ := lookIn_ns hns
          exact ⟨some od, ho, rfl, rfl, hod⟩
      exact PySem.W.kia_one (PySem.W.kitx_exc C.cl C.ga hgt C.sb C.ca C.sn C.tk C.mo) I.kIn J e (by cases hcv <;> exact fun z => nomatch z) fun tk => ⟨.bl b, H, I.kept (t' := tk) fun _ _ z => z, rfl, q⟩
/-! ### two lists of the very same things -/
def DSame : Eqv := fun x y _ => (flatV x = true ∧ flatV y = true ∧ eqV x y = true) ∨ ∃ a, x = .ref a ∧ y = .ref a
theorem mon_same : Mon DSame := fun _ _ _ _ _ h => h
theorem eqG_same : EqG X 0 DSame := by
  intro A pins s σ H x y u v sb I rx ry d
  rcases d with d | ⟨a, rfl, rfl⟩
  · exact eqG_flat A pins s σ H x y u v sb I rx ry d
  · cases rx
    cases ry
    exact SeqAt.EqAt.same (A := A) (s := s) (.ref a) X.prog X.w X.xe _ ⟨rfl, H, I, Ext.rfl'⟩
theorem op_eqSame {k : Nat} (hr : Room (k + 1) X.A) : OpR X (compareOp .Eq) (rEqG (DList DSame)) := op_eqG (rcG_list mon_same eqG_same) (hr.mono (by omega))
end
end Lw

namespace Lw
open PySem PySem.Spec PyProof.Rows L2
open Evl (Ex Ev EvA EvL)
/-! ### what evaluates to a thing of which something is true -/
def EvR (R : Hp → V → Prop) (te : TE) (σ : L2.St) (H : Hp) : Prop := ∀ H1, Ex H H1 → ∀ Q : VK, (∀ v H2, Ex H1 H2 → R H2 v → Q v H2) → te σ H1 Q
def EaR {α : Type} (R : Hp → V → α → Prop) (ta : TA) (σ : L2.St) (H : Hp) (bs : List α) : Prop := ∀ H1, Ex H H1 → ∀ Q : List V → Hp → Prop, (∀ vs H2, Ex H1 H2 → Rels R H2 vs bs → Q vs H2) → ta σ H1 Q
def ElR {α : Type} (R : Hp → V → α → Prop) (te : TE) (σ : L2.St) (H : Hp) (bs : List α) : Prop := ∀ H1, Ex H H1 → ∀ Q : VK, (∀ p xs H2, H1 p = none → Ex H1 H2 → H2 p = some (.lst xs) → Rels R H2 xs bs → Q (.ref p) H2) → te σ H1 Q
section
variable {α : Type} {R : Hp → V → α → Prop} {σ : L2.St} {H : Hp} {te tb : TE} {ta : TA} {b : α} {bs cs : List α}
theorem EvR.imp {R S : Hp → V → Prop} (h : EvR R te σ H) (k : ∀ H v, R H v → S H v) : EvR S te σ H := fun H1 e Q q => h H1 e Q fun v H2 e2 r => q v H2 e2 (k H2 v r)
theorem ear_nil : EaR R tNil σ H [] := fun H1 _ _ q => q [] H1 (Ex.refl H1) trivial
theorem ear_cons (mon : ∀ {H H' : Hp} {v : V} {b : α}, Ex H H' → R H v b → R H' v b) (h : EvR (fun H v => R H v b) te σ H) (r : EaR R ta σ H bs) : EaR R (tCons te ta) σ H (b :: bs) := fun H1 e Q q =>
  h H1 e _ fun v H2 e2 hv => r H2 (e.trans e2) _ fun vs H3 e3 hvs => q (v :: vs) H3 (e2.trans e3) ⟨mon e3 hv, hvs⟩
theorem elr_lst (mon : ∀ {H H' : Hp} {v : V} {b : α}, Ex H H' → R H v b → R H' v b) (h : EaR R ta σ H bs) (hl : bs.length ≤ 100000) : ElR R (tLst ta) σ H bs := fun H1 e Q q =>
  h H1 e _ fun vs H2 e2 hv => ⟨Evl.sz_of (by rw [hv.len]; exact hl), fun p np => q p vs _ (Evl.fresh_back e2 np) (e2.trans (Ex.new np)) upd_same (hv.imp fun _ _ r => mon (Ex.new np) r)⟩
theorem elr_cat (mon : ∀ {H H' : Hp} {v : V} {b : α}, Ex H H' → R H v b → R H' v b) (h : ElR R te σ H bs) (k : ElR R tb σ H cs) (hl : bs.length + cs.length ≤ 100000) : ElR R (tOp rCat te tb) σ H (bs ++ cs) := fun H1 e Q q =>
  h H1 e _ fun p xs H2 np e2 hp hx => k H2 (e.trans e2) _ fun r ys H3 nr e3 hr hy => ⟨p, r, xs, ys, rfl, rfl, e3 _ _ hp, hr, Evl.sz_of (by rw [hx.len, hy.len]; exact hl), fun l nl =>
    q l (xs ++ ys) _ (Evl.fresh_back (e2.trans e3) nl) ((e2.trans e3).trans (Ex.new nl)) upd_same (Rels.append (hx.imp fun _ _ r => mon (e3.trans (Ex.new nl)) r) (hy.imp fun _ _ r => mon (Ex.new nl) r))⟩
theorem elr_var (mon : ∀ {H H' : Hp} {v : V} {b : α}, Ex H H' → R H v b → R H' v b) {i : Nat} {p : Addr} {xs : List V} (hi : σ[i]? = some (some (.ref p))) (hp : H p = some (.lst xs)) (hx : Rels R H xs bs) :
    ∀ H1, Ex H H1 → ∀ Q : VK, (H1 p = some (.lst xs) → Rels R H1 xs bs → Q (.ref p) H1) → tVar i σ H1 Q := fun H1 e Q q => ⟨.ref p, hi, q (e _ _ hp) (hx.imp fun _ _ r => mon e r)⟩
/-- xs + [..], xs a name's list -/
theorem elr_catV (mon : ∀ {H H' : Hp} {v : V} {b : α}, Ex H H' → R H v b → R H' v b) {i : Nat} {p : Addr} {xs : List V} (hi : σ[i]? = some (some (.ref p))) (hp : H p = some (.lst xs)) (hx : Rels R H xs bs) (k : ElR R tb σ H cs) (hl : bs.length + cs.length ≤ 100000) :
    ElR R (tOp rCat (tVar i) tb) σ H (bs ++ cs) := fun H1 e Q q => ⟨.ref p, hi, k H1 e _ fun r ys H3 nr e3 hr hy => ⟨p, r, xs, ys, rfl, rfl, (e.trans e3) _ _ hp, hr, Evl.sz_of (by rw [hx.len, hy.len]; exact hl), fun l nl =>
    q l (xs ++ ys) _ (Evl.fresh_back e3 nl) (e3.trans (Ex.new nl)) upd_same (Rels.append (hx.imp fun _ _ r => mon ((e.trans e3).trans (Ex.new nl)) r) (hy.imp fun _ _ r => mon (Ex.new nl) r))⟩⟩
end
section
variable {K : PySem.W.Frag} {σ : L2.St} {H : Hp} {te tb : TE}
theorem el_catV {i : Nat} {p : Addr} {xs ys : List V} (hi : σ[i]? = some (some (.ref p))) (hp : H p = some (.lst xs)) (k : EvL tb σ H ys) (hl : (xs ++ ys).length ≤ 100000) : EvL (tOp rCat (tVar i) tb) σ H (xs ++ ys) := fun H1 e Q q =>
  ⟨.ref p, hi, k H1 e _ fun r H3 nr e3 hr => ⟨p, r, xs, ys, rfl, rfl, (e.trans e3) _ _ hp, hr, Evl.sz_of (by rw [List.length_append] at hl; exact hl), fun l nl => q l _ (Evl.fresh_back e3 nl) (e3.trans (Ex.new nl)) upd_same⟩⟩
end
section
variable {α : Type} {R : Hp → V → α → Prop} {σ : L2.St} {H : Hp} {te : TE} {bs : List α} {D : Ends} {tz : TS}
theorem q_asgR {i : Nat} (h : ElR R te σ H bs) (k : ∀ p xs H1, H p = none → Ex H H1 → H1 p = some (.lst xs) → Rels R H1 xs bs → tz D (σ.set i (some (.ref p))) H1) : tSeq (tAsg te (gName i)) tz D σ H :=
  h H (Ex.refl H) _ fun p xs H1 np e hp hr => k p xs H1 np e hp hr
theorem s_retR (h : ElR R te σ H bs) (k : ∀ p xs H1, H p = none → Ex H H1 → H1 p = some (.lst xs) → Rels R H1 xs bs → D.rt (.ref p) H1) : tRet te D σ H :=
  h H (Ex.refl H) _ fun p xs H1 np e hp hr => k p xs H1 np e hp hr
end
/-- a class of errors with two fields -/
structure ErC2 (P : Program) (w : World) (K : PySem.W.Frag) (mg : Str → Option Value) (base : Heap) (x f f2 : Str) (C fI : Addr) (fd : FuncData) : Prop where
  O : OexC K C
  X : XfC K C
  I : IsC K C
  i : PySem.W.findIn K (.ref C) "__init__" = some (some (.ref fI))
  t : PySem.W.typeIn K (.ref fI) = some (.type "function")
  no : PySem.W.findIn K (.ref C) f = some none
  no2 : PySem.W.findIn K (.ref C) f2 = some none
  g : mg x = some (.ref C)
  G : FnOk P w K mg base CX0 1 fI fd ["self", f, f2] (sp_init2 K C f f2)
  b : Binds K fd ["self", f, f2] []
/-! ### made errors -/
theorem exo_lst {a C : Addr} {d : Option Addr} {xs : List V} : exo a C d ≠ .lst xs := fun z => by
  have z' : HO.ext _ = HO.lst xs := z
  cases z'
theorem exd_lst {a : Addr} {fs : List (Str × V)} {xs : List V} : exd a fs ≠ .lst xs := fun z => by
  have z' : HO.ext _ = HO.lst xs := z
  cases z'
theorem exo_dk {a C : Addr} {d : Option Addr} {xs : List (Key × V)} : exo a C d ≠ .dK xs := fun z => by
  have z' : HO.ext _ = HO.dK xs := z
  cases z'
theorem exd_dk {a : Addr} {fs : List (Str × V)} {xs : List (Key × V)} : exd a fs ≠ .dK xs := fun z => by
  have z' : HO.ext _ = HO.dK xs := z
  cases z'
/-- v is an error of the class at C that keeps fs -/
def ErAt (C : Addr) (fs : List (Str × V)) (H : Hp) (v : V) : Prop := ∃ (a : Addr) (d : Option Addr), v = .ref a ∧ H a = some (exo a C d) ∧ match d with
  | none => fs = []
  | some dx => H dx = some (exd dx fs)
theorem ErAt.ex {C : Addr} {fs : List (Str × V)} {H H' : Hp} {v : V} (e : Ex H H') (h : ErAt C fs H v) : ErAt C fs H' v := by
  obtain ⟨a, d, h1, h2, h3⟩ := h
  refine ⟨a, d, h1, e _ _ h2, ?_⟩
  cases d with
  | none => exact h3
  | some dx => exact e _ _ h3
/-- another object changes -/
theorem ErAt.put {C : Addr} {fs : List (Str × V)} {H : Hp} {v : V} {p : Addr} {o u : HO} (hp : H p = some o) (n1 : ∀ a C d, exo a C d ≠ o) (n2 : ∀ a f, exd a f ≠ o) (h : ErAt C fs H v) : ErAt C fs (upd H p u) v := by
  obtain ⟨a, d, h1, h2, h3⟩ := h
  refine ⟨a, d, h1, (upd_ne (ne_of h2 hp (n1 _ _ _))).trans h2, ?_⟩
  cases d with
  | none => exact h3
  | some dx => exact (upd_ne (ne_of h3 hp (n2 _ _))).trans h3
section
variable {K : PySem.W.Frag} {σ : L2.St} {H : Hp} {te tf : TE} {C a : Addr} {f f2 : Str} {y z : V}
theorem mk1_er {H1 : Hp} {Q : VK} {C : Addr} {f : Str} {y : V} (q : ∀ v H2, Ex H1 H2 → ErAt C [(f, y)] H2 v → Q v H2) : ∀ a, H1 a = none → sp_init1 K C f [.ref a, y] (upd H1 a (exo a C none)) (fun v H2 => v = .non ∧ Q (.ref a) H2) (fun _ _ _ => False) := fun a na =>
  ⟨a, y, rfl, upd_same, fun dx nd ne => ⟨rfl, q _ _ (fun b o hb => by
    have hba := ne_of_none hb na
    have hbd : b ≠ dx := ne_of_none (by rw [upd_ne hba]; exact hb) nd
    rw [upd_ne hba, upd_ne hbd, upd_ne hba]
    exact hb) ⟨a, some dx, rfl, upd_same, (upd_ne ne).trans upd_same⟩⟩⟩
theorem mk2_er {H1 : Hp} {Q : VK} {C : Addr} {f f2 : Str} {y z : V} (q : ∀ v H2, Ex H1 H2 → ErAt C [(f2, z), (f, y)] H2 v → Q v H2) : ∀ a, H1 a = none → sp_init2 K C f f2 [.ref a, y, z] (upd H1 a (exo a C none)) (fun v H2 => v = .non ∧ Q (.ref a) H2) (fun _ _ _ => False) := fun a na =>
  ⟨a, y, z, rfl, upd_same, fun dx nd ne => ⟨rfl, q _ _ (fun b o hb => by
    have hba := ne_of_none hb na
    have hbd : b ≠ dx := ne_of_none (by rw [upd_ne hba]; exact hb) nd
    rw [upd_ne hbd, upd_ne hba, upd_ne hbd, upd_ne hba]
    exact hb) ⟨a, some dx, rfl, (upd_ne (Ne.symm ne)).trans upd_same, upd_same⟩⟩⟩
/-- C(e) -/
theorem evr_mk1 (h : Ev te σ H y) : EvR (ErAt C [(f, y)]) (tMkV C (sp_init1 K C f) [] (tCons te tNil)) σ H := fun H1 e Q q =>
  h H1 e _ fun H2 e2 => ⟨by show 1 ≤ 1000; decide, mk1_er fun v H3 e3 r => q v H3 (e2.trans e3) r⟩
theorem evr_mk2 (h : Ev te σ H y) (k : Ev tf σ H z) : EvR (ErAt C [(f2, z), (f, y)]) (tMkV C (sp_init2 K C f f2) [] (tCons te (tCons tf tNil))) σ H := fun H1 e Q q =>
  h H1 e _ fun H2 e2 => k H2 (e.trans e2) _ fun H3 e3 => ⟨by show 2 ≤ 1000; decide, mk2_er fun v H4 e4 r => q v H4 ((e2.trans e3).trans e4) r⟩
def kwG {α : Type} : List α → List α → List α := fun us ws => match us, ws with
  | [a], [b] => [a, b]
  | _, _ => []
def kwG2 {α : Type} : List α → List α → List α := fun us ws => match us, ws with
  | [a], [n, v] => [a, v, n]
  | _, _ => []
theorem kwG_rel {vs : List V} {us : List Value} {zs : List V} {ws : List Value} (r1 : Vals vs us) (r2 : Vals zs ws) : Vals (kwG vs zs) (kwG us ws) := by
  cases r1 with
  | nil => exact .nil
  | cons a r =>
    cases r with
    | cons _ _ => exact .nil
    | nil =>
      cases r2 with
      | nil => exact .nil
      | cons b r =>
        cases r with
        | nil => exact .cons a (.cons b .nil)
        | cons _ _ => exact .nil
theorem kwG2_rel {vs : List V} {us : List Value} {zs : List V} {ws : List Value} (r1 : Vals vs us) (r2 : Vals zs ws) : Vals (kwG2 vs zs) (kwG2 us ws) := by
  cases r1 with
  | nil => exact .nil
  | cons a r =>
    cases r with
    | cons _ _ => exact .nil
    | nil =>
      cases r2 with
      | nil => exact .nil
      | cons b r =>
        cases r with
        | nil => exact .nil
        | cons c r =>
          cases r with
          | nil => exact .cons a (.cons c (.cons b .nil))
          | cons _ _ => exact .nil
/-- C(f = e) -/
theorem evr_mkK1 (h : Ev te σ H y) : EvR (ErAt C [(f, y)]) (tMkVK C (sp_init1 K C f) kwG (tCons te tNil)) σ H := fun H1 e Q q =>
  h H1 e _ fun H2 e2 => mk1_er fun v H3 e3 r => q v H3 (e2.trans e3) r
theorem evr_mkK2 (h : Ev te σ H z) (k : Ev tf σ H y) : EvR (ErAt C [(f2, z), (f, y)]) (tMkVK C (sp_init2 K C f f2) kwG2 (tCons te (tCons tf tNil))) σ H := fun H1 e Q q =>
  h H1 e _ fun H2 e2 => k H2 (e.trans e2) _ fun H3 e3 => mk2_er fun v H4 e4 r => q v H4 ((e2.trans e3).trans e4) r
theorem evr_mk0 : EvR (ErAt C []) (fun _ H Q => ∀ a, H a = none → Q (.ref a) (upd H a (exo a C none))) σ H := fun H1 e Q q a na => q _ _ (Ex.new na) ⟨a, none, rfl, upd_same, rfl⟩
/-- e.f -/
theorem ev_xv {fs : List (Str × V)} (h : Ev te σ H (.ref a)) (r : ErAt C fs H (.ref a)) (l : fs.lookup f = some y) : Ev (tXv C f te) σ H y := fun H1 e Q q =>
  h H1 e _ fun H2 e2 => by
    obtain ⟨a', d, ea, h2, h3⟩ := r.ex (e.trans e2)
    cases ea
    cases d with
    | none => rw [h3] at l; cases l
    | some dx => exact ⟨a, dx, fs, y, rfl, h2, h3, l, q H2 e2⟩
/-- isinstance(e, c) -/
theorem rc_isW {fs : List (Str × V)} {c : V} {cv : Value} {b : Bool} (I : IsC K C) (r : ErAt C fs H (.ref a)) (hc : ClsV c cv) (hk : PySem.W.kitOne K (.ref C) cv = some b) : Evl.RC (rIsW K) [.ref a, c] H (.bl b) := fun H1 e Q q => by
  obtain ⟨a', d, ea, h2, h3⟩ := r.ex e
  cases ea
  refine ⟨a, C, d, c, cv, b, I, h2, fun dx hd => ?_, rfl, hc, hk, q H1 (Ex.refl H1)⟩
  subst hd
  exact ⟨fs, h3⟩
end
end Lw

namespace Lw
open PySem PySem.Spec PyProof.Rows L2
/-! ### a name's list or tuple walked -/
def iSeq (K : PySem.W.Frag) (i : Nat) : TI := fun σ H R => ∃ a, σ[i]? = some (some (.ref a)) ∧ (((∃ xs, SqL K H a xs) ∧ R (Itl K a) H) ∨ ((∃ xs, SqT K H a xs) ∧ R (Itt K a) H))
theorem k_piS {X : Cx} {tg l : Expr} {i : Nat} (K : PySem.W.Frag) (hl : PE X l (tVar i)) (h : X.K = K := by rfl) : PI X tg l (iSeq K i) := by
  subst h
  refine ⟨fun pins s σ H R I q => ?_⟩
  obtain ⟨a, hi, q | q⟩ := q
  · exact (pi_list hl).run pins s σ H R I ⟨.ref a, hi, a, rfl, q.1, q.2⟩
  · exact (pi_tup hl).run pins s σ H R I ⟨.ref a, hi, a, rfl, q.1, q.2⟩
/-! ### o[i] by an own __getitem__ -/
structure OwnIx (K : PySem.W.Frag) (C f : Addr) : Prop where
  at_ : PySem.W.findIn K (.ref C) "__getitem__" = some (some (.ref f))
  isF : PySem.W.fnIn K f = true
  fn : PySem.W.isFn K (.ref f) = true
def tOix (C : Addr) (sp : Sp) (E : L2.St → XK) (to ti : TE) : TE := fun σ H Q => to σ H fun x H1 => ti σ H1 fun y H2 => ∃ a dx fs, x = .ref a ∧ H2 a = some (.ins C dx fs) ∧ sp [.ref a, y] H2 Q (E σ)
theorem pe_oix {X : Cx} {CX : CXT} {k : Nat} {C g : Addr} {fd : FuncData} {ps : List Str} {sp : Sp} {E : L2.St → XK} {o i : Expr} {pos : Pos} {to ti : TE} (ho : PE X o to) (hi : PE X i ti) (O : OwnIx X.K C g) (F : FnOk X.prog X.w X.K X.mg X.base CX k g fd ps sp) (hr : Room (k + 1) X.A) (hb : Binds X.K fd ps []) (hx : ∀ σ, PassesAt CX X σ (E σ))
    (hsl : ∀ ov iv, subscripted i true ov iv = runValue (.builtin "lifetime.subscript" ⟨[ov, iv], []⟩) := by intro _ _; with_unfolding_all rfl) : PE X (.Subscript o i pos) (tOix C sp E to ti) := by
  refine ⟨fun pins s σ H Q I h => ?_⟩
  refine Subscript_ (thn (ho.run pins s σ H _ I h) fun u s1 ⟨x, H1, I1, rx, q1⟩ => thn (hi.run pins s1 σ H1 _ I1 q1) fun iv s2 ⟨y, H2, I2, ry, a, dx, fs, ex, ea, q2⟩ => ?_)
  subst ex
  obtain rfl : u = Value.ref a := rx
  obtain ⟨m, fr⟩ := I2.fr
  obtain ⟨mA, J, _⟩ := ins_get I2.hok ea
  obtain ⟨od, J, _⟩ := J.look
  refine PySem.W.sub_K fr I2.ok.mod.kin J O.at_ O.isF O.fn ?_ (hsl _ _)
  have r2 : Vals [V.ref a, y] [Value.ref a, iv] := .cons rfl (.cons ry .nil)
  have hl : [Value.ref a, iv].length = ps.length := by
    rw [← r2.length]
    exact F.len _ _ _ _ q2
  have b := hb s2 [.ref a, iv] I2.kIn (by rw [List.append_nil]; exact hl)
  rw [List.append_nil] at b
  refine wpAny_call (codeAny_mono (F.run X.A.in1 X.stack s2 H2 ⟨[.ref a, iv], []⟩ [.ref a, iv] [.ref a, y] Q (E σ) hr.in1 I2.env0.in1 b r2 q2) fun r s' hq => ?_)
  cases r with
  | error e => exact hx σ pins H2 s2 e s' I2 hq
  | ok fl =>
    cases fl with
    | ret u => exact I2.after hq
    | next => exact False.elim hq
    | brk => exact False.elim hq
    | cont => exact False.elim hq
/-! ### dicts of the same things compared -/
def SameV (x y : V) : Prop := (flatV x = true ∧ flatV y = true ∧ eqV x y = true) ∨ ∃ a, x = .ref a ∧ y = .ref a
theorem same_at {A : Around} {s : Shared} {x y : V} {u v : Value} (rx : RelV x u) (ry : RelV y v) (h : SameV x y) : SeqAt.EqAt A s u v true := by
  rcases h with ⟨fx, fy, e⟩ | ⟨a, rfl, rfl⟩
  · rw [← e]
    exact eqAt_V rx ry fx fy
  · cases rx
    cases ry
    exact SeqAt.EqAt.same (.ref a)
theorem hits_same {κ : Type} [DecidableEq κ] {A : Around} {s : Shared} {ls : List (κ × V)} {vb : List (κ × Value)} (rb : KV ls vb) {ks : List (κ × V)} {va : List (κ × Value)} (ra : KV ks va) :
    (∀ p ∈ ks, ∃ y, valV ls p.1 = some y ∧ SameV p.2 y) → PySem.W.KeqHits A s vb va true := by
  unfold KV at ra
  induction ra with
  | nil => intro _; exact .nil
  | @cons p q ps qs h t ih =>
    intro hp
    obtain ⟨h1, h2⟩ := h
    obtain ⟨z, e, f⟩ := hp p List.mem_cons_self
    have rr : RelO (some z) (valueAt vb p.1) := by rw [← e]; exact rb.val p.1
    obtain ⟨y, hy, ry⟩ := rr.some_of
    obtain ⟨k, v⟩ := q
    have hk : p.1 = k := h1
    rw [hk] at hy
    show PySem.W.KeqHits A s vb ((k, v) :: qs) (true && true)
    exact .hit hy (same_at h2 ry f) (ih fun p' hm => hp p' (List.mem_cons_of_mem _ hm))
def DDict : Eqv := fun x y H => ∃ a b ks ls, x = .ref a ∧ y = .ref b ∧ H a = some (.dK ks) ∧ H b = some (.dK ls) ∧ ks.length = ls.length ∧ ∀ p ∈ ks, ∃ y, valV ls p.1 = some y ∧ SameV p.2 y
theorem mon_dict : Mon DDict := fun x y H H' e d => by
  obtain ⟨a, b, ks, ls, hx, hy, h1, h2, r⟩ := d
  exact ⟨a, b, ks, ls, hx, hy, e _ _ h1, e _ _ h2, r⟩
section
variable {X : Cx} {n : Nat} {D : Eqv}
theorem rcG_dict : RcG X n DDict := by
  intro A pins s σ H x y u v sb I rx ry d
  obtain ⟨a, b, ks, ls, rfl, rfl, ea, eb, hlen, hp⟩ := d
  cases rx
  cases ry
  obtain ⟨_, ya, va, ra, da⟩ := (show ObjOk X.prog X.w H s.heap a (.dK ks) from I.hok a _ ea)
  obtain ⟨_, yb, vb, rb, db⟩ := (show ObjOk X.prog X.w H s.heap b (.dK ls) from I.hok b _ eb)
  have hl : va.length = vb.length := by rw [← ra.length, ← rb.length]; exact hlen
  exact PySem.W.keq_eq (knd := mixKind X.prog X.w) (r := true) ya yb da db sb.room.units0 (fun _ => hits_same rb ra hp) ⟨by simp [hl], H, I, Ext.rfl'⟩
theorem eqG_dict : EqG X n DDict := rcG_dict.eqG fun _ _ _ d => let ⟨a, b, _, _, hx, hy, _⟩ := d; ⟨a, b, hx, hy⟩
/-- d != e, the same things in both -/
def rNeG (D : Eqv) : R2 := fun x y H Q => D x y H ∧ ∀ H', Ext H H' → Q (.bl false) H'
theorem op_neDict (hu : X.A.units < cLine) : OpR X (compareOp .NotEq) (rNeG DDict) := by
  intro pins s σ H x y v u Q I rx ry h
  obtain ⟨⟨a, b, ks, ls, rfl, rfl, ea, eb, hlen, hp⟩, q⟩ := h
  cases rx
  cases ry
  obtain ⟨_, ya, va, ra, da⟩ := (show ObjOk X.prog X.w H s.heap a (.dK ks) from I.hok a _ ea)
  obtain ⟨_, yb, vb, rb, db⟩ := (show ObjOk X.prog X.w H s.heap b (.dK ls) from I.hok b _ eb)
  have hl : va.length = vb.length := by rw [← ra.length, ← rb.length]; exact hlen
  exact PySem.W.keq_ne (knd := mixKind X.prog X.w) (r := true) ya yb da db hu (fun _ => hits_same rb ra hp) ⟨.bl false, H, I, by simp [hl]; rfl, q H Ext.rfl'⟩
end
end Lw

/-! ### != of two lists of one length, told item by item, within one model -/
namespace PySem.SeqAt
open AutoSeq1 (wpAny_loadPart')
open MeetsSeq MeetsSeq2 MeetsSeq3 SeqRoads2
section
variable {prog : Program} {w : World}
theorem lw_ne_loop (p q : Addr) (us vs : Array Value) (m m2 : Nat) (d1 d2 : Option Addr) (s1 s2 : Array (Option Value)) (hz : us.size = vs.size) (e : Nat → Bool) :
    ∀ (k i : Nat), us.size - i = k → MeetsIn prog w (Builtin.«list.__eq__.loop» ⟨[.ref p, .ref q, rawInt i, rawInt 3], []⟩) fun A R s =>
      s.heap.get? p = some { cls := .type "list", dict := d1, data := .seq us m, slots := s1 } ∧ s.heap.get? q = some { cls := .type "list", dict := d2, data := .seq vs m2, slots := s2 } ∧ (∀ j (h1 : j < us.size) (h2 : j < vs.size), EqP prog w A.in1 s us[j] vs[j] (e j)) ∧ R (.ok (.ret (.bool (!((List.range us.size).drop i).all e)))) s := by
  intro k
  induction k with
  | zero =>
    intro i hk A R s h
    obtain ⟨hh, gg, dr, tk, os⟩ := s
    obtain ⟨hp, hq, he, hR⟩ := h
    wp_walk using wpAny_loadPart' hp, wpAny_loadPart' hq
    have n1 : us[((i : Nat) : Int).toNat]? = none := by simp; omega
    have n2 : vs[((i : Nat) : Int).toNat]? = none := by simp; omega
    have hd : (List.range us.size).drop i = [] := by simp; omega
    rw [hd] at hR
    rw [n1, n2]
    wp_walk using wpAny_loadPart' hp, wpAny_loadPart' hq
    show R (.ok (.ret (.bool (us.size != vs.size)))) _
    rw [hz]
    simpa using hR
  | succ k ih =>
    intro i hk A R s h
    obtain ⟨hh, gg, dr, tk, os⟩ := s
    obtain ⟨hp, hq, he, hR⟩ := h
    wp_walk using wpAny_loadPart' hp, wpAny_loadPart' hq
    have l1 : i < us.size := by omega
    have l2 : i < vs.size := by omega
    have g1 : us[((i : Nat) : Int).toNat]? = some us[i] := by simp [l1]
    have g2 : vs[((i : Nat) : Int).toNat]? = some vs[i] := by simp [l2]
    have hd : (List.range us.size).drop i = i :: (List.range us.size).drop (i + 1) := by simp [List.drop_eq_getElem_cons, l1]
    have hc : ((i : Int) + 1) = ((i + 1 : Nat) : Int) := by push_cast; rfl
    rw [hd, List.all_cons] at hR
    rw [g1, g2]
    refine wpAny_bind (he i l1 l2 _ _ ?_)
    cases hi : e i with
    | true =>
      rw [hi] at hR
      wp_walk
      rw [hc]
      refine ⟨plainId_quiet plain_eq_loop _, codeAny_builtin entry_eq_loop ?_⟩
      rw [Around.under_plainId plain_eq_loop _]
      exact ih (i + 1) (by omega) A R _ ⟨hp, hq, he, by simpa using hR⟩
    | false =>
      rw [hi] at hR
      wp_walk using wpAny_loadPart' hp, wpAny_loadPart' hq
      rw [g1, g2]
      wp_walk
      simpa using hR
theorem lw_list_ne (p q : Addr) (us vs : Array Value) (m m2 : Nat) (d1 d2 : Option Addr) (s1 s2 : Array (Option Value)) (hz : us.size = vs.size) (e : Nat → Bool) :
    MeetsIn prog w (Builtin.«list.__ne__» ⟨[.ref p, .ref q], []⟩) fun A R s =>
      s.heap.get? p = some { cls := .type "list", dict := d1, data := .seq us m, slots := s1 } ∧ s.heap.get? q = some { cls := .type "list", dict := d2, data := .seq vs m2, slots := s2 } ∧ (∀ j (h1 : j < us.size) (h2 : j < vs.size), EqP prog w A.in1 s us[j] vs[j] (e j)) ∧ R (.ok (.ret (.bool (!(List.range us.size).all e)))) s := by
  intro A R s h
  obtain ⟨hh, gg, dr, tk, os⟩ := s
  obtain ⟨hp, hq, he, hR⟩ := h
  have sl := AutoSeq1.sub_list_list
  have nz : ¬ (us.size != vs.size) = true := by simp [hz]
  wp_walk using wpAny_loadPart' hp, wpAny_loadPart' hq
  refine ⟨plainId_quiet plain_eq_loop _, codeAny_builtin entry_eq_loop ?_⟩
  rw [Around.under_plainId plain_eq_loop _]
  exact lw_ne_loop p q us vs m m2 d1 d2 s1 s2 hz e _ 0 rfl A R _ ⟨hp, hq, he, by simpa using hR⟩
theorem lw_ne_lists {A : Around} {s : Shared} {p q : Addr} {us vs : Array Value} {e : Nat → Bool} (hp : s.heap.IsList p us) (hq : s.heap.IsList q vs) (hz : us.size = vs.size) (hu : A.units < cLine)
    (he : ∀ j (h1 : j < us.size) (h2 : j < vs.size), EqP prog w A.in1 s us[j] vs[j] (e j)) {E Q : Value → Shared → Prop} (h : Q (.bool (!(List.range us.size).all e)) s) : wpAny (model prog w) A (richCompare .NotEq (.ref p) (.ref q)) Q E s := by
  obtain ⟨⟨c1, d1, x1, s1⟩, o1, k1, m1, r1⟩ := id hp
  obtain ⟨⟨c2, d2, x2, s2⟩, o2, k2, m2, r2⟩ := id hq
  simp only at k1 r1 k2 r2
  subst k1 r1 k2 r2
  have ta : s.TypeIs (.ref p) "list" := ⟨_, o1, rfl⟩
  have tb : s.TypeIs (.ref q) "list" := ⟨_, o2, rfl⟩
  exact wpAny_richCompare_same_room (op := .NotEq) ta tb F.slot_list_ne (call_meetsIn F.slot_list_ne ta F.entry_list_ne (F.args_list_ne_2 _ _) (lw_list_ne p q us vs m1 m2 d1 d2 s1 s2 hz e)
    ⟨o1, o2, he, show Value.bool (!(List.range us.size).all e) ≠ Value.notImplemented ∧ Q (.bool (!(List.range us.size).all e)) s from ⟨(fun x => nomatch x), h⟩⟩) hu
end
end PySem.SeqAt

namespace Lw
open PySem PySem.Spec PyProof.Rows L2
/-! ### == of two things by what the abstract heap knows: data, dicts, the same thing; both answers -/
def EqS (n : Nat) (X : Cx) (H : Hp) (x y : V) (b : Bool) : Prop :=
  ∀ (pins : List (Addr × Obj)) (σ : L2.St) (s : Shared) (A : Around) (u v : Value), L2.Inv X pins σ H s → L2.RelV x u → L2.RelV y v → A.units + n < cLine → SeqAt.EqP X.prog X.w A s u v b
section
variable {X : Cx} {H : Hp} {x y : V} {b : Bool} {n m : Nat}
theorem EqS.mono (h : EqS n X H x y b) (k : n ≤ m) : EqS m X H x y b := fun pins σ s A u v I rx ry hu => h pins σ s A u v I rx ry (by omega)
theorem eqs_same (h : SameV x y) : EqS n X H x y true := fun pins σ s A u v I rx ry _ => (same_at rx ry h).eqP
theorem eqs_flat (hx : flatV x = true) (hy : flatV y = true) : EqS n X H x y (eqV x y) := fun pins σ s A u v I rx ry _ => (eqAt_V rx ry hx hy).eqP
theorem eqs_data {d e : PyData} (hd : Dp X.K H x d) (he : Dp X.K H y e) (gd : GoodD n d) (ge : GoodD n e) : EqS n X H x y (PyData.eqv d e) := fun pins σ s A u v I rx ry hu => by
  obtain ⟨as, r1⟩ := Dp.reads I d x u hd rx
  obtain ⟨bs, r2⟩ := Dp.reads I e y v he ry
  exact (SeqAt.eqAt_reads d e A s u v as bs r1 r2 gd.1 ge.1 (by have := gd.2; have := ge.2; omega)).eqP
/-- items of two lists -/
theorem eqs_items {A : Around} {s : Shared} {pins : List (Addr × Obj)} {σ : L2.St} {xs ys : List V} {us vs : List Value} {e : Nat → Bool} (I : L2.Inv X pins σ H s) (r1 : Vals xs us) (r2 : Vals ys vs) (hu : A.units + n < cLine)
    (he : ∀ j a b, xs[j]? = some a → ys[j]? = some b → EqS n X H a b (e j)) : ∀ j (h1 : j < us.toArray.size) (h2 : j < vs.toArray.size), SeqAt.EqP X.prog X.w A s us.toArray[j] vs.toArray[j] (e j) := fun j h1 h2 => by
  have k1 : j < xs.length := by rw [r1.length]; simpa using h1
  have k2 : j < ys.length := by rw [r2.length]; simpa using h2
  obtain ⟨u, hu1, ru⟩ := r1.get (List.getElem?_eq_getElem k1)
  obtain ⟨v, hv1, rv⟩ := r2.get (List.getElem?_eq_getElem k2)
  have g1 : us.toArray[j] = u := by
    have : us[j]? = some us.toArray[j] := by
      rw [List.getElem?_eq_getElem (by simpa using h1)] <;> simp
    rw [this] at hu1
    exact Option.some.inj hu1
  have g2 : vs.toArray[j] = v := by
    have : vs[j]? = some vs.toArray[j] := by
      rw [List.getElem?_eq_getElem (by simpa using h2)] <;> simp
    rw [this] at hv1
    exact Option.some.inj hv1
  rw [g1, g2]
  exact he j _ _ (List.getElem?_eq_getElem k1) (List.getElem?_eq_getElem k2) pins σ s A u v I ru rv hu
theorem units_in1 (A : Around) : A.in1.units ≤ A.units + 1 := by
  unfold Around.in1
  simp
/-- dict and dict -/
theorem hits_b {A : Around} {s : Shared} {pins : List (Addr × Obj)} {σ : L2.St} (I : L2.Inv X pins σ H s) {ls : List (Key × V)} {vb : List (Key × Value)} (rb : KV ls vb) {ks : List (Key × V)} {va : List (Key × Value)} (ra : KV ks va) (hu : A.units + n < cLine) :
    (∀ p ∈ ks, ∃ y, valV ls p.1 = some y ∧ EqS n X H p.2 y true) → PySem.W.KeqHitsP X.prog X.w A s vb va true := by
  unfold KV at ra
  induction ra with
  | nil => intro _; exact .nil
  | @cons p q ps qs h t ih =>
    intro hp
    obtain ⟨h1, h2⟩ := h
    obtain ⟨z, e, f⟩ := hp p List.mem_cons_self
    have rr : RelO (some z) (valueAt vb p.1) := by rw [← e]; exact rb.val p.1
    obtain ⟨y, hy, ry⟩ := rr.some_of
    obtain ⟨k, v⟩ := q
    have hk : p.1 = k := h1
    rw [hk] at hy
    show PySem.W.KeqHitsP X.prog X.w A s vb ((k, v) :: qs) (true && true)
    exact .hit hy (f pins σ s A v y I h2 ry hu) (ih fun p' hm => hp p' (List.mem_cons_of_mem _ hm))
theorem eqs_dict {a c : Addr} {ks ls : List (Key × V)} (ea : H a = some (.dK ks)) (eb : H c = some (.dK ls)) (hlen : ks.length = ls.length) (hp : ∀ p ∈ ks, ∃ y, valV ls p.1 = some y ∧ EqS n X H p.2 y true) : EqS (n + 2) X H (.ref a) (.ref c) true := fun pins σ s A u v I rx ry hu => by
  cases rx
  cases ry
  by_cases hac : a = c
  · subst hac
    exact (SeqAt.EqAt.same (.ref a)).eqP
  · obtain ⟨_, ya, va, ra, da⟩ := (show ObjOk X.prog X.w H s.heap a (.dK ks) from I.hok a _ ea)
    obtain ⟨_, yb, vb, rb, db⟩ := (show ObjOk X.prog X.w H s.heap c (.dK ls) from I.hok c _ eb)
    have hl : va.length = vb.length := by rw [← ra.length, ← rb.length]; exact hlen
    refine SeqAt.eqP_refs hac fun E Q hq => PySem.W.rcP_dicts (knd := mixKind X.prog X.w) (r := true) ya yb da db (by omega) (fun _ => hits_b I rb ra (by have := units_in1 A; omega) hp) E Q ?_
    simpa [hl] using hq
/-- list != list -/
def rNeL (X : Cx) (n : Nat) : R2 := fun x y H Q => ∃ (p q : Addr) (xs ys : List V) (e : Nat → Bool), x = .ref p ∧ y = .ref q ∧ SqL X.K H p xs ∧ SqL X.K H q ys ∧ xs.length = ys.length ∧ (∀ j a b, xs[j]? = some a → ys[j]? = some b → EqS n X H a b (e j)) ∧ Q (.bl (!(List.range xs.length).all e)) H
theorem op_neL (hu : X.A.units + (n + 1) < cLine) : OpR X (compareOp .NotEq) (rNeL X n) := by
  intro pins s σ H x y v u Q I rx ry h
  obtain ⟨p, q, xs, ys, e, rfl, rfl, hp, hq, hl, he, qq⟩ := h
  cases rx
  cases ry
  obtain ⟨us, r1, pl, _⟩ := I.list hp
  obtain ⟨vs, r2, ql, _⟩ := I.list hq
  have hz : us.toArray.size = vs.toArray.size := by
    rw [List.size_toArray, List.size_toArray, ← r1.length, ← r2.length]
    exact hl
  show wpAny (model X.prog X.w) X.A (richCompare .NotEq (.ref p) (.ref q)) (EP X pins σ Q) X.xe s
  refine SeqAt.lw_ne_lists (e := e) pl.isList ql.isList hz (by omega) (eqs_items I r1 r2 (by have := units_in1 X.A; omega) he) ⟨.bl (!(List.range xs.length).all e), H, I, ?_, qq⟩
  rw [List.size_toArray, ← r1.length]
  rfl
end
end Lw

namespace Lw
open PySem PySem.Spec PyProof.Rows L2
/-! ### a thing == itself -/
def SelfV (x : V) : Prop := (flatV x = true ∧ eqV x x = true) ∨ ∃ a, x = .ref a
def SelfOk (K : PySem.W.Frag) (H : Hp) (v : V) : Prop := (flatV v = true ∧ eqV v v = true) ∨ (∃ d, Dp K H v d ∧ GoodD 4 d) ∨ (∃ a ks, v = .ref a ∧ H a = some (.dK ks) ∧ ∀ p ∈ ks, ∃ y, valV ks p.1 = some y ∧ SameV p.2 y)
def rSelf (K : PySem.W.Frag) : R2 := fun x y H Q => x = y ∧ SelfOk K H x ∧ ∀ H', Ext H H' → Q (.bl true) H'
theorem selfV_str (z : Str) : SelfV (.str z) := .inl ⟨rfl, by simp [eqV]⟩
theorem selfV_int (i : Int) : SelfV (.int i) := .inl ⟨rfl, by simp [eqV]⟩
theorem selfV_bl (b : Bool) : SelfV (.bl b) := .inl ⟨rfl, by simp [eqV]⟩
theorem selfV_non : SelfV .non := .inl ⟨rfl, rfl⟩
theorem SelfOk.ex {K : PySem.W.Frag} {H H' : Hp} {v : V} (e : Evl.Ex H H') (h : SelfOk K H v) : SelfOk K H' v := by
  rcases h with h | ⟨d, h1, h2⟩ | ⟨a, xs, h1, h2, h3⟩
  · exact .inl h
  · exact .inr (.inl ⟨d, dp_ex e _ _ h1, h2⟩)
  · exact .inr (.inr ⟨a, xs, h1, e _ _ h2, h3⟩)
theorem op_eqSelf {X : Cx} (hu : X.A.units + 64 < cLine) : OpR X (compareOp .Eq) (rSelf X.K) := by
  intro pins s σ H x y v u Q I rx ry h
  obtain ⟨rfl, h, q⟩ := h
  rcases h with ⟨f, e⟩ | ⟨d, h1, h2⟩ | ⟨a, ks, rfl, h2, h3⟩
  · refine op_eq pins s σ H x x v u Q I rx ry ?_
    cases x <;> first | (cases f; done) | skip
    all_goals exact ⟨by first | rfl | simp [scal], by rw [decide_eq_true rfl]; exact q H Ext.rfl'⟩
  · refine op_eqD hu pins s σ H x x v u Q I rx ry ⟨d, d, h1, h1, h2.shaped (by decide), h2.shaped (by decide), ?_⟩
    rw [SeqAt.eqv_refl d h2.1]
    exact q H Ext.rfl'
  · cases rx
    cases ry
    obtain ⟨_, ya, va, ra, da⟩ := (show ObjOk X.prog X.w H s.heap a (.dK ks) from I.hok a _ h2)
    exact PySem.W.keq_eq (knd := mixKind X.prog X.w) (r := true) ya ya da da (by omega) (fun _ => hits_same ra ra h3) ⟨.bl true, H, I, by show Value.bool (va.length == va.length && true) = Value.bool true; simp, q H Ext.rfl'⟩
theorem k_eqSelf {X : Cx} (K : PySem.W.Frag) (hu : X.A.units + 64 < cLine) (h : X.K = K := by rfl) : OpR X (compareOp .Eq) (rSelf K) := by
  subst h
  exact op_eqSelf hu
/-! ### drawing from wider ranges -/
def sp_drawW : Sp := fun vs H Q _ => ∃ (st : Addr) (size : Int) (n : Nat), vs = [.ref st, .int size] ∧ DS H st n ∧ n ≤ 1000000000 ∧ 0 < size ∧ size ≤ 100000000000000000000 ∧
  ∀ (d : Int) (H' : Hp), 0 ≤ d → d < size → DS H' st (n + 1) → Kp st H H' → Q (.int d) H'
theorem sp_draw_W {vs : List V} {H : Hp} {Q : VK} {E : XK} (h : sp_draw vs H Q E) : sp_drawW vs H Q E := by
  obtain ⟨st, size, n, h1, h2, h3, h4, h5, h6⟩ := h
  exact ⟨st, size, n, h1, h2, h3, h4, by omega, h6⟩
theorem wide20 {b size : Int} (h0 : 0 < size) (h1 : size ≤ 100000000000000000000) : CDivW b size := wide_div (b := 70) h0 (by have : (2 : Nat) ^ 70 = 1180591620717411303424 := by decide
                                                                                                                              omega) (by decide) (by decide)
/-! ### values that stand apart from the state and are equal to themselves -/
def Ce (st : Addr) (H : Hp) (v : V) : Prop := (∃ a xs, v = .ref a ∧ Ap H st a (.tup xs) ∧ ∀ x ∈ xs, It1 st H x) ∨ (∃ z, v = .str z) ∨ v = .non ∨ (∃ b, v = .bl b) ∨ (∃ i, v = .int i) ∨ (∃ a xs, v = .ref a ∧ Ap H st a (.lst xs) ∧ ∀ x ∈ xs, It1 st H x) ∨ (∃ a kvs, v = .ref a ∧ Ap H st a (.dK kvs) ∧ ∀ p ∈ kvs, ∃ y, valV kvs p.1 = some y ∧ SameV p.2 y)
theorem Ce.kp {st : Addr} {H H' : Hp} {v : V} (k : Kp st H H') (h : Ce st H v) : Ce st H' v := by
  rcases h with ⟨a, xs, h1, h2, h3⟩ | h | h | h | h | ⟨a, xs, h1, h2, h3⟩ | ⟨a, xs, h1, h2, h3⟩
  · exact .inl ⟨a, xs, h1, k _ _ h2, fun x hx => (h3 x hx).kp k⟩
  · exact .inr (.inl h)
  · exact .inr (.inr (.inl h))
  · exact .inr (.inr (.inr (.inl h)))
  · exact .inr (.inr (.inr (.inr (.inl h))))
  · exact .inr (.inr (.inr (.inr (.inr (.inl ⟨a, xs, h1, k _ _ h2, fun x hx => (h3 x hx).kp k⟩)))))
  · exact .inr (.inr (.inr (.inr (.inr (.inr ⟨a, xs, h1, k _ _ h2, h3⟩)))))
theorem Ce.cd {st : Addr} {H : Hp} {v : V} (h : Ce st H v) : Cd st H v := by
  rcases h with h | h | h | h | h | ⟨a, xs, h1, h2, h3⟩ | ⟨a, xs, h1, h2, h3⟩
  · exact .inl h
  · exact .inr (.inl h)
  · exact .inr (.inr (.inl h))
  · exact .inr (.inr (.inr (.inl h)))
  · exact .inr (.inr (.inr (.inr (.inl h))))
  · exact .inr (.inr (.inr (.inr (.inr (.inl ⟨a, xs, h1, h2⟩)))))
  · exact .inr (.inr (.inr (.inr (.inr (.inr ⟨a, xs, h1, h2⟩)))))
theorem Ce.self {K : PySem.W.Frag} {st : Addr} {H : Hp} {v : V} (h : Ce st H v) : SelfOk K H v := by
  rcases h with ⟨a, xs, rfl, h2, h3⟩ | ⟨z, rfl⟩ | rfl | ⟨b, rfl⟩ | ⟨i, rfl⟩ | ⟨a, xs, rfl, h2, h3⟩ | ⟨a, kvs, rfl, h2, h3⟩
  · obtain ⟨ds, hd, hg⟩ := its_dp (K := K) h3
    exact .inr (.inl ⟨.tuple ds, .tup (Evl.st_of h2.1) hd, (good_tuple hg).mono (by decide)⟩)
  · exact .inl ⟨rfl, by simp [eqV]⟩
  · exact .inl ⟨rfl, rfl⟩
  · exact .inl ⟨rfl, by simp [eqV]⟩
  · exact .inl ⟨rfl, by simp [eqV]⟩
  · obtain ⟨ds, hd, hg⟩ := its_dp (K := K) h3
    have hgt := (good_tuple hg).mono (m := 4) (by decide)
    exact .inr (.inl ⟨.list ds, .lst (Evl.sq_of h2.1) hd, by simpa [PyData.canLay0] using hgt.1, by simpa [PyData.depth] using hgt.2⟩)
  · exact .inr (.inr ⟨a, kvs, rfl, h2.1, h3⟩)
end Lw

namespace Lw
open PySem PySem.Spec PyProof.Rows L2
/-! ### amounts: whole numbers, and the values that are none -/
def whole (v : V) (low : Int) : Bool := match v with
  | .int i => decide (low ≤ i)
  | _ => false
def isBl (v : V) : Bool := match v with
  | .bl _ => true
  | _ => false
def isIn (v : V) : Bool := match v with
  | .bl _ => true
  | .int _ => true
  | _ => false
def AmX (H : Hp) (v : V) : Prop := (∃ i, v = .int i) ∨ (∃ b, v = .bl b) ∨ v = .non ∨ (∃ z, v = .str z) ∨ ∃ t, v = .ref t ∧ H t = some (.tup [])
def AmS (st : Addr) (H : Hp) (v : V) : Prop := (∃ i, v = .int i) ∨ (∃ b, v = .bl b) ∨ v = .non ∨ (∃ z, v = .str z) ∨ ∃ t, v = .ref t ∧ Ap H st t (.tup [])
theorem AmX.ex {H H' : Hp} {v : V} (e : Evl.Ex H H') (h : AmX H v) : AmX H' v := by
  rcases h with h | h | h | h | ⟨t, h1, h2⟩
  · exact .inl h
  · exact .inr (.inl h)
  · exact .inr (.inr (.inl h))
  · exact .inr (.inr (.inr (.inl h)))
  · exact .inr (.inr (.inr (.inr ⟨t, h1, e _ _ h2⟩)))
theorem AmS.kp {st : Addr} {H H' : Hp} {v : V} (k : Kp st H H') (h : AmS st H v) : AmS st H' v := by
  rcases h with h | h | h | h | ⟨t, h1, h2⟩
  · exact .inl h
  · exact .inr (.inl h)
  · exact .inr (.inr (.inl h))
  · exact .inr (.inr (.inr (.inl h)))
  · exact .inr (.inr (.inr (.inr ⟨t, h1, k _ _ h2⟩)))
theorem AmS.x {st : Addr} {H : Hp} {v : V} (h : AmS st H v) : AmX H v := by
  rcases h with h | h | h | h | ⟨t, h1, h2⟩
  · exact .inl h
  · exact .inr (.inl h)
  · exact .inr (.inr (.inl h))
  · exact .inr (.inr (.inr (.inl h)))
  · exact .inr (.inr (.inr (.inr ⟨t, h1, h2.1⟩)))
theorem AmX.same {H : Hp} {v : V} (h : AmX H v) : SameV v v := by
  rcases h with ⟨i, rfl⟩ | ⟨b, rfl⟩ | rfl | ⟨z, rfl⟩ | ⟨t, rfl, _⟩
  · exact .inl ⟨rfl, rfl, by simp [eqV]⟩
  · exact .inl ⟨rfl, rfl, by simp [eqV]⟩
  · exact .inl ⟨rfl, rfl, rfl⟩
  · exact .inl ⟨rfl, rfl, by simp [eqV]⟩
  · exact .inr ⟨t, rfl, rfl⟩
theorem whole_int {v : V} {low : Int} (h : whole v low = true) : ∃ i, v = .int i ∧ low ≤ i := by
  cases v with
  | int i => exact ⟨i, rfl, of_decide_eq_true h⟩
  | _ => cases h
theorem AmX.ty {K : PySem.W.Frag} {H : Hp} {v : V} (h : AmX H v) : ∃ t, TyX K H v (.type t) ∧ PySem.W.kitOne K (.type t) (.type "bool") = some (isBl v) ∧ PySem.W.kitOne K (.type t) (.type "int") = some (isIn v) := by
  rcases h with ⟨i, rfl⟩ | ⟨b, rfl⟩ | rfl | ⟨z, rfl⟩ | ⟨t, rfl, h2⟩
  · exact ⟨_, .base (.int i), kit_ty (r := false) (by decide +kernel), kit_ty (r := true) (by decide +kernel)⟩
  · exact ⟨_, .base (.bl b), kit_ty (r := true) (by decide +kernel), kit_ty (r := true) (by decide +kernel)⟩
  · exact ⟨_, .base .non, kit_ty (r := false) (by decide +kernel), kit_ty (r := false) (by decide +kernel)⟩
  · exact ⟨_, .base (.str z), kit_ty (r := false) (by decide +kernel), kit_ty (r := false) (by decide +kernel)⟩
  · exact ⟨_, .base (.tup h2), kit_ty (r := false) (by decide +kernel), kit_ty (r := false) (by decide +kernel)⟩
theorem rc_isB {K : PySem.W.Frag} {H : Hp} {v : V} (h : AmX H v) : Evl.RC (rIsi K) [v, .ty "bool"] H (.bl (isBl v)) := fun H1 e Q q => by
  obtain ⟨t, h1, h2, h3⟩ := (h.ex e).ty (K := K)
  exact ⟨v, .ty "bool", .type t, .type "bool", _, rfl, .ty _, h1, h2, q H1 (Evl.Ex.refl _)⟩
theorem rc_isI {K : PySem.W.Frag} {H : Hp} {v : V} (h : AmX H v) : Evl.RC (rIsi K) [v, .ty "int"] H (.bl (isIn v)) := fun H1 e Q q => by
  obtain ⟨t, h1, h2, h3⟩ := (h.ex e).ty (K := K)
  exact ⟨v, .ty "int", .type t, .type "int", _, rfl, .ty _, h1, h3, q H1 (Evl.Ex.refl _)⟩
theorem whole_of (v : V) (low : Int) : whole v low = (isIn v && (!isBl v && whole v low)) := by
  cases v <;> simp [whole, isIn, isBl]
theorem int_of {v : V} (h1 : isIn v = true) (h2 : isBl v = false) : ∃ i, v = .int i := by
  cases v with
  | int i => exact ⟨i, rfl⟩
  | bl b => cases h2
  | _ => cases h1
def sp_odd : Sp := fun vs H Q _ => ∃ (st : Addr) (n : Nat), vs = [.ref st] ∧ DS H st n ∧ n ≤ 900000000 ∧ ∀ (v : V) (H' : Hp), DS H' st (n + 1) → Kp st H H' → AmS st H' v → Q v H'
def sp_from : Sp := fun vs H Q _ => ∃ (v : V) (low : Int), vs = [v, .int low] ∧ AmX H v ∧ ∀ H', Evl.Ex H H' → Q (.bl (whole v low)) H'
def sp_whole : Sp := fun vs H Q _ => ∃ (v : V) (low : Int), vs = [v, .int low, .non] ∧ AmX H v ∧ ∀ H', Evl.Ex H H' → Q (.bl (whole v low)) H'
/-! ### dicts with texts for keys -/
def KD (kvs : List (Key × V)) (ks : List Str) : Prop := kvs.map (·.1) = ks.map Sum.inr
def addK (ks : List Str) (s : Str) : List Str := if s ∈ ks then ks else ks ++ [s]
theorem addK_mem {ks : List Str} {s x : Str} : x ∈ addK ks s ↔ x ∈ ks ∨ x = s := by
  unfold addK
  split
  · constructor
    · exact .inl
    · rintro (h | rfl)
      · exact h
      · assumption
  · simp
theorem addK_nd {ks : List Str} {s : Str} (h : ks.Nodup) : (addK ks s).Nodup := by
  unfold addK
  split
  · exact h
  · exact nd_snoc h (by assumption)
theorem addK_len {ks : List Str} {s : Str} : (addK ks s).length ≤ ks.length + 1 := by
  unfold addK
  split
  · omega
  · simp
theorem KD.len {kvs : List (Key × V)} {ks : List Str} (h : KD kvs ks) : kvs.length = ks.length := by
  have := congrArg List.length h
  simpa using this
theorem KD.key {kvs : List (Key × V)} {ks : List Str} (h : KD kvs ks) {p : Key × V} (hp : p ∈ kvs) : ∃ s ∈ ks, p.1 = .inr s := by
  have : p.1 ∈ kvs.map (·.1) := List.mem_map_of_mem hp
  rw [h] at this
  obtain ⟨s, h1, h2⟩ := List.mem_map.mp this
  exact ⟨s, h1, h2.symm⟩
theorem KD.at {kvs : List (Key × V)} {ks : List Str} (h : KD kvs ks) {s : Str} (hs : s ∈ ks) : ∃ v, valV kvs (.inr s) = some v ∧ ∃ p ∈ kvs, p.2 = v := by
  cases hv : valV kvs (.inr s) with
  | none =>
    have : (Sum.inr s : Key) ∈ kvs.map (·.1) := by
      rw [h]
      exact List.mem_map_of_mem hs
    exact absurd this (valV_not hv)
  | some v =>
    refine ⟨v, rfl, ?_⟩
    unfold valV at hv
    obtain ⟨p, h1, h2⟩ := Option.map_eq_some_iff.mp hv
    exact ⟨p, List.mem_of_find?_eq_some h1, h2⟩
theorem KD.put {kvs : List (Key × V)} {ks : List Str} (h : KD kvs ks) (s : Str) (v : V) : KD (putK kvs (.inr s) v) (addK ks s) := by
  unfold KD putK addK
  have e : (kvs.any fun kv => decide (kv.1 = (.inr s : Key))) = decide (s ∈ ks) := by
    rw [Bool.eq_iff_iff, List.any_eq_true, decide_eq_true_iff]
    constructor
    · rintro ⟨p, hp, e⟩
      obtain ⟨z, hz, e2⟩ := h.key hp
      have := of_decide_eq_true e
      rw [e2] at this
      cases this
      exact hz
    · intro hs
      have : (Sum.inr s : Key) ∈ kvs.map (·.1) := by
        rw [h]
        exact List.mem_map_of_mem hs
      obtain ⟨p, hp, e⟩ := List.mem_map.mp this
      exact ⟨p, hp, decide_eq_true e⟩
  rw [e]
  by_cases hs : s ∈ ks
  · rw [if_pos (decide_eq_true hs), if_pos hs, ← h, List.map_map]
    refine List.map_congr_left fun p hp => ?_
    show (if p.1 = .inr s then (p.1, v) else p).1 = p.1
    split <;> rfl
  · rw [if_neg (by simpa using hs), if_neg hs, List.map_append, List.map_append, ← h]
    rfl
theorem put_mem {kvs : List (Key × V)} {k : Key} {v : V} {p : Key × V} (h : p ∈ putK kvs k v) : p ∈ kvs ∨ p.2 = v := by
  unfold putK at h
  split at h
  · obtain ⟨q, hq, e⟩ := List.mem_map.mp h
    by_cases hk : q.1 = k
    · rw [if_pos hk] at e
      exact .inr (by rw [← e])
    · rw [if_neg hk] at e
      exact .inl (by rw [← e]; exact hq)
  · rcases List.mem_append.mp h with h | h
    · exact .inl h
    · rw [List.mem_singleton.mp h]
      exact .inr rfl
theorem KD.val {kvs : List (Key × V)} {ks : List Str} (h : KD kvs ks) (hn : ks.Nodup) {p : Key × V} (hp : p ∈ kvs) : valV kvs p.1 = some p.2 := by
  have hn' : (kvs.map (·.1)).Nodup := by
    rw [h]
    exact List.Pairwise.map _ (fun a b (hne : a ≠ b) e => hne (Sum.inr.inj e)) hn
  clear h hn
  induction kvs with
  | nil => cases hp
  | cons q r ih =>
    rw [List.map_cons] at hn'
    obtain ⟨h1, h2⟩ := List.nodup_cons.mp hn'
    rcases List.mem_cons.mp hp with rfl | hp
    · exact valV_pos rfl
    · rw [valV_neg fun e => h1 (by rw [e]; exact List.mem_map_of_mem hp)]
      exact ih hp h2
theorem lookK {kvs : List (Key × V)} {k j : Key} {y : V} : valV (putK kvs k y) j = if j = k then some y else valV kvs j := valV_put kvs k j y
def sp_costs (K : PySem.W.Frag) : Sp := fun vs H Q _ => ∃ (st g : Addr) (n : Nat) (ws : List Str) (scale : Int), vs = [.ref st, .ref g, .int scale] ∧ DS H st n ∧ n ≤ 800000000 ∧ SqL K H g (ws.map V.str) ∧ ws.length ≤ 1000 ∧ 0 < scale ∧ scale ≤ 100000000000000000000 ∧
  ∀ (d : Addr) (kvs : List (Key × V)) (ks : List Str) (H' : Hp), DS H' st (n + 2 * ws.length) → Kp st H H' → (∀ b o, Ap H st b o → b ≠ d) → Ap H' st d (.dK kvs) → KD kvs ks → ks.Nodup → ks.length ≤ ws.length → (∀ s, s ∈ ks ↔ s ∈ ws) → (∀ p ∈ kvs, ∃ i, p.2 = .int i) → Q (.ref d) H'
end Lw

namespace Lw
open PySem PySem.Spec PyProof.Rows L2
section
variable {X : Cx} {CX : CXT} {k n : Nat} {f C : Addr} {fd : FuncData} {ps ks : List Str} {sp : Sp} {x m : Str} {p pos apos : Pos} {e o : Expr} {es : List Expr} {kws : List Keyword} {t tk : TA} {ta : TE} {g : List Value → List Value → List Value} {gV : List V → List V → List V}
/-- what a call lets out is what the def lets out -/
theorem passUp {E : XK} {W : WX} (tk : Takes X W) (h : ∀ cls d σ H, E cls d H → W cls d σ H) : Passes (L2.CX X.prog X.w) X E := passes_call tk h
/-- o.f inside of a block -/
theorem k_fld (K : PySem.W.Frag) (he : PE X e ta) (hb : attributeBase e m X.env (eval e X.env) = eval e X.env) (h : X.K = K := by rfl) : PE X (.Attribute e m pos) (tFld K ta m) := by
  subst h
  exact pe_fld he hb
/-- isinstance inside of an except's suite -/
theorem k_isi (K : PySem.W.Frag) (h : X.K = K := by rfl) : CallR X (.builtin "isinstance") (rIsi K) := by
  subst h
  exact call_isi
/-- what C(e, .., k = v, ..) says, inside of a try -/
def tMakeS (C : Addr) (n m : Nat) (sp : Sp) (gV : List V → List V → List V) (E : L2.St → XK) (t tk : TA) : TE := fun σ H Q => t σ H fun vs H1 => tk σ H1 fun zs H2 => vs.length = n ∧ zs.length = m ∧ ∀ y dx, H2 y = none → H2 dx = none → dx ≠ y →
  sp (gV (.ref y :: vs) zs) (upd (upd H2 dx (.own y)) y (.ins C dx [])) (fun v H3 => v = .non ∧ Q (.ref y) H3) (E σ)
theorem pe_makeS {E : L2.St → XK} (M : Mk X.K C f) (F : FnOk X.prog X.w X.K X.mg X.base CX k f fd ps sp) (hr : Room (k + 1) X.A) (hg : Gl X x) (hm : X.mg x = some (.ref C)) (hb : KBn X.K fd ps (n + 1) ks g gV) (hx : ∀ σ, PassesAt CX X σ (E σ)) (ha : PA X (e :: es) t) (hkw : PK X kws tk)
    (h1 : (backToKw pos (keywordEach kws X.env)).all (·.1.isSome) = true := by rfl) (h2 : (backToKw pos (keywordEach kws X.env)).filterMap (·.1) = ks := by rfl) (h3 : (x == ("__debug__" : Str)) = false := by decide)
    (h4 : starEach (e :: es) X.env = (false, eval e X.env) :: starEach es X.env := by rfl) (h5 : ((backTo pos (starEach (e :: es) X.env)).any (·.1) || (backToKw pos (keywordEach kws X.env)).any (·.1.isNone)) = false := by rfl) :
    PE X (.Call (.Name x p) (e :: es) kws pos) (tMakeS C n ks.length sp gV E t tk) := by
  constructor
  intro pins s σ H Q I h
  refine wpAny_Call_Name_kw (ld_glob I hg hm ?_ h3)
  refine PySem.W.callWith_KW (h₀ := X.base) I.ok.mod.kin M.kp h1 (thn (ha.run pos pins s σ H _ I h) fun us s1 ⟨vs, H1, I1, r, q⟩ => thn (hkw.run pos pins s1 σ H1 _ I1 q) fun ws s2 ⟨zs, H2, I2, rz, l1, l2, q2⟩ => ⟨I2.kIn, ?_⟩) h5 h4
  rw [h2]
  have q9 := q2 (s2.heap.objs.size + 1) s2.heap.objs.size (I2.hok.fresh (Nat.le_succ _)) (I2.hok.fresh (Nat.le_refl _)) (Nat.ne_of_lt (Nat.lt_succ_self _))
  have I3 := Inv.made (C := C) I2
  have r1 : Vals (V.ref (s2.heap.objs.size + 1) :: vs) (Value.ref (s2.heap.objs.size + 1) :: us) := .cons rfl r
  have n1 : (Value.ref (s2.heap.objs.size + 1) :: us).length = n + 1 := by
    rw [List.length_cons, ← r.length, l1]
  refine wpAny_call (make_map (f := f) I2.kIn M.makes M.init (beq_iff_eq.mp M.fn) (codeAny_mono (F.run _ X.stack _ _ ⟨Value.ref (s2.heap.objs.size + 1) :: us, ks.zip ws⟩ (g (Value.ref (s2.heap.objs.size + 1) :: us) ws) _ _ (E σ) (hr.make C us (ks.zip ws)) (I3.env0.make C us (ks.zip ws)) (hb.to _ (Value.ref (s2.heap.objs.size + 1) :: us) ws I3.kIn n1 (rz.length.symm.trans l2)) (hb.rel r1 rz) q9) fun r s' hq' => ?_))
  cases r with
  | error er => exact hx σ pins _ _ er s' I3 hq'
  | ok fl =>
    cases fl with
    | ret u =>
      obtain ⟨v, H', I4, rv, ev, q3⟩ := I3.after hq'
      cases ev
      exact ⟨rv, V.ref (s2.heap.objs.size + 1), H', I4, rfl, q3⟩
    | next => cases hq'
    | brk => cases hq'
    | cont => cases hq'
/-- o.m(e, ..), inside of a try -/
def tMethS (C : Addr) (m : Str) (sp : Sp) (E : L2.St → XK) (ta : TE) (t : TA) : TE := fun σ H Q => ta σ H fun x H1 => ∃ a dx fs, x = .ref a ∧ H1 a = some (.ins C dx fs) ∧ fs.lookup m = none ∧ t σ H1 fun vs H2 => sp (x :: vs) H2 Q (E σ)
theorem pe_methS {pl : Sem Bool} {E : L2.St → XK} (he : PE X o ta) (c : Cls X.K C) (hm : Meth X.K C m f) (F : FnOk X.prog X.w X.K X.mg X.base CX k f fd ps sp) (hr : Room k X.A) (hb : Binds X.K fd ps []) (hx : ∀ σ, PassesAt CX X σ (E σ)) (ha : PA X (e :: es) t)
    (h1 : starEach (e :: es) X.env = (false, eval e X.env) :: starEach es X.env := by rfl) (h2 : (backTo pos (starEach es X.env)).any (·.1) = false := by rfl)
    (h3 : eval (.Call (.Attribute o m apos) (e :: es) [] pos) X.env = (do let ov ← eval o X.env; standAt apos.atName; let (f, first) ← holding [ov] (getMethod ov m pl); callWith pos f first (backTo pos (starEach (e :: es) X.env)) (backToKw pos (keywordEach [] X.env))) := by rfl) :
    PE X (.Call (.Attribute o m apos) (e :: es) [] pos) (tMethS C m sp E ta t) := by
  constructor
  intro pins s σ H Q I h
  refine PySem.W.methodCall_KW (pl := pl) (thn (he.run pins s σ H _ I h) fun u s1 ⟨x, H1, I1, rx, a, dx, fs, ex, ea, l, q⟩ => ?_) h3
  cases ex
  cases rx
  refine getmeth_ok I1 ea c hm l (PySem.W.callWith_K (first := [.ref a]) (h₀ := X.base) I.ok.mod.kin hm.kp (thn (ha.run pos pins s1 σ H1 _ I1 q) fun us s2 ⟨vs, H2, I2, r, q2⟩ => ⟨I2.kIn, ?_⟩) h1 h2)
  exact run_fnS (us := .ref a :: us) (vs := .ref a :: vs) F hr hb (hx σ) I2 (.cons rfl r) q2
/-- o.m(k = v, ..) -/
def tMethK (C : Addr) (m : Str) (sp : Sp) (gV : List V → List V → List V) (E : XK) (ta : TE) (tk : TA) : TE := fun σ H Q => ta σ H fun x H1 => ∃ a dx fs, x = .ref a ∧ H1 a = some (.ins C dx fs) ∧ fs.lookup m = none ∧ tk σ H1 fun zs H2 => sp (gV [x] zs) H2 Q E
theorem pe_methK {pl : Sem Bool} {E : XK} (he : PE X o ta) (c : Cls X.K C) (hm : Meth X.K C m f) (F : FnOk X.prog X.w X.K X.mg X.base CX k f fd ps sp) (hr : Room k X.A) (hb : KBinds X.K fd ps ks g gV) (hx : Passes CX X E) (hkw : PK X kws tk)
    (h1 : (backToKw pos (keywordEach kws X.env)).all (·.1.isSome) = true := by rfl) (h2 : (backToKw pos (keywordEach kws X.env)).filterMap (·.1) = ks := by rfl)
    (h3 : eval (.Call (.Attribute o m apos) [] kws pos) X.env = (do let ov ← eval o X.env; standAt apos.atName; let (f, first) ← holding [ov] (getMethod ov m pl); callWith pos f first (backTo pos (starEach [] X.env)) (backToKw pos (keywordEach kws X.env))) := by rfl)
    (h5 : ((backTo pos (starEach [] X.env)).any (·.1) || (backToKw pos (keywordEach kws X.env)).any (·.1.isNone)) = false := by rfl) :
    PE X (.Call (.Attribute o m apos) [] kws pos) (tMethK C m sp gV E ta tk) := by
  constructor
  intro pins s σ H Q I h
  refine PySem.W.methodCall_KW (pl := pl) (thn (he.run pins s σ H _ I h) fun u s1 ⟨x, H1, I1, rx, a, dx, fs, ex, ea, l, q⟩ => ?_) h3
  cases ex
  cases rx
  refine getmeth_ok I1 ea c hm l (PySem.W.callWith_KW0 (first := [.ref a]) (h₀ := X.base) I.ok.mod.kin hm.kp h1 (thn (hkw.run pos pins s1 σ H1 _ I1 q) fun ws s2 ⟨zs, H2, I2, rz, q2⟩ => ⟨I2.kIn, ?_⟩) h5)
  rw [h2]
  exact run_fnk (us := [.ref a]) (vs := [.ref a]) F hr hb hx I2 (.cons rfl .nil) rz q2
end
end Lw

namespace Lw
open PySem PySem.Spec PyProof.Rows L2
/-! ### in order: one list alone -/
theorem rising_pw : ∀ (r : List Str) (p : Str), risingS p r = true → (p :: r).Pairwise fun a b => decide (a.cps.toList ≤ b.cps.toList) = true
  | [], p, _ => List.pairwise_singleton _ _
  | x :: r, p, h => by
    have h : (!ltCps x.cps.toList p.cps.toList && risingS x r) = true := h
    rw [Bool.and_eq_true, ltCps_eq] at h
    have ih := rising_pw r x h.2
    have hpx : p.cps.toList ≤ x.cps.toList := by
      have h1 := h.1
      simp only [Bool.not_eq_true', decide_eq_false_iff_not] at h1
      exact List.not_lt.mp h1
    refine List.pairwise_cons.mpr ⟨fun y hy => ?_, ih⟩
    rcases List.mem_cons.mp hy with rfl | hy
    · exact decide_eq_true hpx
    · exact decide_eq_true (List.le_trans hpx (of_decide_eq_true ((List.pairwise_cons.mp ih).1 y hy)))
theorem srt_only {ys ks : List Str} (hp : ys.Perm ks) (hs : sortedS ys = true) : ys = srt ks := by
  have hw : ys.Pairwise fun a b => decide (a.cps.toList ≤ b.cps.toList) = true := by
    cases ys with
    | nil => exact .nil
    | cons x r => exact rising_pw r x hs
  refine List.Perm.eq_of_pairwise (fun a b _ _ h1 h2 => ?_) hw (srt_sorted ks) (hp.trans (srt_perm ks).symm)
  have e := List.le_antisymm (of_decide_eq_true h1) (of_decide_eq_true h2)
  cases a with
  | mk a =>
    cases b with
    | mk b => exact congrArg Str.mk (Array.ext' e)
theorem gres_tw {ks : List Str} (hn : ks.Nodup) (s : Str) : gres (srt ks) ≠ .tw s := by
  have hn' := (srt_perm ks).nodup_iff.mpr hn
  revert hn'
  generalize srt ks = ws
  intro hn' h
  unfold gres at h
  split at h
  · cases h
  have key : ∀ (r seen : List Str), (seen ++ r).Nodup → scan seen r ≠ .tw s := by
    intro r
    induction r with
    | nil => intro seen _ h; cases h
    | cons x r ih =>
      intro seen hnd h
      unfold scan at h
      split at h
      · cases h
      · split at h
        · rename_i h2
          exact (List.nodup_append.mp hnd).2.2 x h2 x List.mem_cons_self rfl
        · exact ih (seen ++ [x]) (by simpa using hnd) h
  exact key ws [] (by simpa using hn') h
/-! ### a dict made by a comprehension -/
section
variable {J : L2.It} {n : Nat} {G : Hp → Prop} {Y : Nat → Hp → V → Hp → Prop}
theorem dc_it (w : Walk J n G Y) {g : TG} {tt : TT} {tk tv : TE} {vs : List Nat} {σ : L2.St} {H1 : Hp} {D : Addr} {Qd : Hp → Prop} (Pv : Nat → Hp → Prop) (h0 : Pv 0 (upd H1 D (.dK []))) (hG : ∀ i H, i ≤ n → Pv i H → G H)
    (hs : ∀ i x H H', i < n → Pv i H → Y i H x H' → g x (wipe σ vs) H' fun σ2 H2 => wipe σ2 vs = wipe σ vs ∧ tt σ2 H2 fun b H3 => if b = true then tk σ2 H3 fun y H4 => tv σ2 H4 fun z H5 => ∃ kvs k, y = kV k ∧ H5 D = some (.dK kvs) ∧ kvs.length < sizeLine ∧ Pv (i + 1) (upd H5 D (.dK (putK kvs k z))) else Pv (i + 1) H3)
    (hd : ∀ H, Pv n H → Qd H) :
    ∃ W : Nat → Nat → Hp → Prop, (∃ m, W 0 m (upd H1 D (.dK []))) ∧ ∀ i m H, W i m H → (J.stop i H ∧ Qd H) ∨ (J.go i H ∧ ∃ Nx : Hp → Prop, (∀ H', Nx H' → ∃ m', m' < m ∧ W (i + 1) m' H') ∧ ∀ x H', J.yld i H x H' → g x (wipe σ vs) H' fun σ2 H2 => wipe σ2 vs = wipe σ vs ∧ tt σ2 H2 fun b H3 =>
      if b = true then tk σ2 H3 fun y H4 => tv σ2 H4 fun z H5 => ∃ kvs k, y = kV k ∧ H5 D = some (.dK kvs) ∧ kvs.length < sizeLine ∧ Nx (upd H5 D (.dK (putK kvs k z))) else Nx H3) := by
  refine ⟨fun i m H => m = n - i ∧ i ≤ n ∧ Pv i H, ⟨n, rfl, Nat.zero_le _, h0⟩, fun i m H h => ?_⟩
  obtain ⟨rfl, hi, p⟩ := h
  rcases Nat.lt_or_ge i n with hlt | hge
  · exact .inr ⟨w.goes i H hlt (hG i H hi p), Pv (i + 1), fun H' p' => ⟨n - (i + 1), by omega, rfl, hlt, p'⟩, fun x H' y => hs i x H H' hlt p (w.yields i H x H' hlt (hG i H hi p) y)⟩
  · obtain rfl : i = n := by omega
    exact .inl ⟨w.stops H (hG _ H hi p), hd H p⟩
end
/-! ### what becomes of prices -/
inductive PR where
  | cnt | nm (s : Str) | tw (s : Str) | price (v : V) | unit | ok
def amt (kvs : List (Key × V)) (s : Str) : V := (valV kvs (.inr s)).getD .non
def firstBad (kvs : List (Key × V)) : List Str → Option V
  | [] => none
  | s :: r => if whole (amt kvs s) 0 = true then firstBad kvs r else some (amt kvs s)
def pres (kvs : List (Key × V)) (ws : List Str) (u : V) : PR := match gres ws with
  | .cnt => .cnt
  | .nm s => .nm s
  | .tw s => .tw s
  | .ok => match firstBad kvs ws with
    | some v => .price v
    | none => if whole u 1 = true then .ok else .unit
theorem firstBad_none {kvs : List (Key × V)} : ∀ {ws : List Str}, firstBad kvs ws = none → ∀ s ∈ ws, whole (amt kvs s) 0 = true
  | [], _, s, hs => by cases hs
  | x :: r, h, s, hs => by
    unfold firstBad at h
    split at h
    · rcases List.mem_cons.mp hs with rfl | hs
      · assumption
      · exact firstBad_none h s hs
    · cases h
theorem firstBad_drop {kvs : List (Key × V)} {ws : List Str} {i : Nat} {s : Str} (h : ws[i]? = some s) : firstBad kvs (ws.drop i) = if whole (amt kvs s) 0 = true then firstBad kvs (ws.drop (i + 1)) else some (amt kvs s) := by
  obtain ⟨hi, e⟩ := List.getElem?_eq_some_iff.mp h
  rw [List.drop_eq_getElem_cons hi, e, firstBad]
theorem KD.amtV {kvs : List (Key × V)} {ks : List Str} (h : KD kvs ks) {s : Str} (hs : s ∈ ks) : valV kvs (.inr s) = some (amt kvs s) := by
  obtain ⟨v, h1, _⟩ := h.at hs
  unfold Lw.amt
  rw [h1]
  rfl
theorem KD.amX {kvs : List (Key × V)} {ks : List Str} {H : Hp} (h : KD kvs ks) (ha : ∀ p ∈ kvs, AmX H p.2) {s : Str} (hs : s ∈ ks) : AmX H (amt kvs s) := by
  obtain ⟨v, h1, p, hp, e⟩ := h.at hs
  unfold Lw.amt
  rw [h1]
  rw [← e]
  exact ha p hp
/-- the same keys and values -/
def SameD (kvs2 kvs : List (Key × V)) (ks : List Str) : Prop := ∃ ks2, KD kvs2 ks2 ∧ ks2.Nodup ∧ (∀ s, s ∈ ks2 ↔ s ∈ ks) ∧ ∀ s ∈ ks, valV kvs2 (.inr s) = valV kvs (.inr s)
def FrX (x : Addr) (H H1 : Hp) : Prop := ∀ b o, H b = some o → b ≠ x → H1 b = some o
theorem FrX.ex {x : Addr} {H H1 H2 : Hp} (h : FrX x H H1) (e : Evl.Ex H1 H2) : FrX x H H2 := fun b o hb hn => e _ _ (h b o hb hn)
theorem FrX.put {x : Addr} {H H1 : Hp} {o : HO} (h : FrX x H H1) : FrX x H (upd H1 x o) := fun b u hb hn => by
  rw [upd_ne hn]
  exact h b u hb hn
theorem FrX.refl (x : Addr) (H : Hp) : FrX x H H := fun _ _ h _ => h
def prF (g m : Addr) (u : V) : List (Str × V) := [("_goods", .ref g), ("_amounts", .ref m), ("_unit", u)]
/-- the errors of prices -/
structure CPs where
  (CP CB CN CD CA CU : Addr)
def initAt (c : CPs) (x dx : Addr) (kvs : List (Key × V)) (ks : List Str) (u : V) (H : Hp) (Q : VK) (E : XK) : Prop := match pres kvs (srt ks) u with
  | .cnt => ∀ H1 d, FrX x H H1 → H1 d = some (.xd [("count", .int (ks.length : Int))]) → E (.ref c.CB) (some d) H1
  | .nm s => ∀ H1 d, FrX x H H1 → H1 d = some (.xd [("name", .str s)]) → E (.ref c.CN) (some d) H1
  | .tw s => ∀ H1 d, FrX x H H1 → H1 d = some (.xd [("name", .str s)]) → E (.ref c.CD) (some d) H1
  | .price v => ∀ H1 d, FrX x H H1 → H1 d = some (.xd [("price", v)]) → E (.ref c.CA) (some d) H1
  | .unit => ∀ H1 d, FrX x H H1 → H1 d = some (.xd [("value", u)]) → E (.ref c.CU) (some d) H1
  | .ok => ∀ H1 g m kvs2, FrX x H H1 → H g = none → H m = none → H1 x = some (.ins c.CP dx (prF g m u)) → H1 g = some (.tup ((srt ks).map V.str)) → H1 m = some (.dK kvs2) → SameD kvs2 kvs ks → Q .non H1
def sp_init (K : PySem.W.Frag) (c : CPs) : Sp := fun vs H Q E => ∃ (x dx d : Addr) (kvs : List (Key × V)) (ks : List Str) (u : V), vs = [.ref x, .ref d, u] ∧ H x = some (.ins c.CP dx []) ∧ H d = some (.dK kvs) ∧ KD kvs ks ∧ TxtOk ks ∧ ks.length ≤ 60 ∧ (∀ p ∈ kvs, AmX H p.2) ∧ AmX H u ∧ initAt c x dx kvs ks u H Q E
end Lw

namespace Lw
open PySem PySem.Spec PyProof.Rows L2
/-! ### a == b by an own __eq__, whatever it answers -/
structure OwnEq (K : PySem.W.Frag) (C f : Addr) : Prop where
  at_ : PySem.W.findIn K (.ref C) "__eq__" = some (some (.ref f))
  fn : PySem.W.isFn K (.ref f) = true
def rOwn (C : Addr) (sp : Sp) (E : XK) : R2 := fun x y H Q => ∃ a b dx dy fs gs, x = .ref a ∧ y = .ref b ∧ H a = some (.ins C dx fs) ∧ H b = some (.ins C dy gs) ∧ sp [.ref a, .ref b] H (fun v H' => (∃ r, v = .bl r) ∧ Q v H') E
theorem op_eqOwn {X : Cx} {CX : CXT} {n : Nat} {C f : Addr} {fd : FuncData} {ps : List Str} {sp : Sp} {E : XK} (O : OwnEq X.K C f) (F : FnOk X.prog X.w X.K X.mg X.base CX n f fd ps sp) (hr : Room (n + 1) X.A) (hb : Binds X.K fd ps []) (hx : Passes CX X E) : OpR X (compareOp .Eq) (rOwn C sp E) := by
  intro pins s σ H x y u v Q I rx ry h
  obtain ⟨a, b, dx, dy, fs, gs, rfl, rfl, ha, hb', q⟩ := h
  cases rx
  cases ry
  obtain ⟨_, J, _⟩ := ins_get I.hok ha
  obtain ⟨_, J', _⟩ := ins_get I.hok hb'
  obtain ⟨_, J, _⟩ := J.look
  obtain ⟨_, J', _⟩ := J'.look
  obtain ⟨_, hF⟩ := I.fr
  have hu : X.A.units < cLine := by have := hr.un; omega
  show wpAny (model X.prog X.w) X.A (richCompare .Eq (.ref a) (.ref b)) (EP X pins σ Q) X.xe s
  refine PySem.W.cmp_K (op := .Eq) (tb := .ref C) hu hF I.ok.mod.kin J J'.type (by simp [PySem.W.notFirst]) O.at_ O.fn ?_
  have e0 := I.env0
  have hl := F.len _ _ _ _ q
  have r2 : Vals [V.ref a, V.ref b] [Value.ref a, Value.ref b] := .cons rfl (.cons rfl .nil)
  have hbb := hb s [.ref a, .ref b] I.kIn (by simpa using hl)
  rw [List.append_nil] at hbb
  refine wpAny_call (codeAny_mono (F.run X.A X.stack s H ⟨[.ref a, .ref b], []⟩ [.ref a, .ref b] [.ref a, .ref b] _ E (hr.mono (by omega)) e0 hbb r2 q) fun r s' hq => ?_)
  cases r with
  | error er => exact hx pins σ H s er s' I hq
  | ok fl =>
    cases fl with
    | ret w =>
      obtain ⟨z, H', I', rz, ⟨r, ez⟩, q3⟩ := I.after hq
      subst ez
      cases rz
      exact ⟨.bl r, H', I', rfl, q3⟩
    | next => cases hq
    | brk => cases hq
    | cont => cases hq
end Lw

/-! ### {**d, k: v}: within one model -/
namespace PySem
section
variable {prog : Program} {w : World} {K : Type} [DecidableEq K] {knd : KeyKind prog w K} {A : Around} {E : Value → Shared → Prop} {s : Shared}
theorem lw_dictPut {d : Addr} {kvs : List (K × Value)} {k : K} {key v : Value} {Q : Unit → Shared → Prop} (hkey : knd.is k key = true) (hm : s.heap.DictOf knd d kvs) (hsz : kvs.length ≤ sizeLine)
    (hQ : ∀ h', h'.DictOf knd d (stored kvs k v) → Heap.SameBut d s.heap h' → Q () { s with heap := h' }) : wpAny (model prog w) A (dictPut d (knd.hash k) key v) Q E s := by
  obtain ⟨o, es, ep, ho, hc, hd, hk, hp, hn⟩ := hm
  have hes : es.size ≤ sizeLine := by
    have e1 := hp.length
    have e2 : es.toList.length = es.size := by simp
    omega
  have hidx : (es.findIdx? fun e => knd.is k e.key) = kvs.findIdx? fun kv => decide (kv.1 = k) := by
    have := hp.findIdx k
    obtain ⟨l⟩ := es
    simpa using this
  unfold dictPut
  refine wpAny_bind (wpAny_dictFind_of hkey ho hd hk ?_)
  cases hi : es.findIdx? fun e => knd.is k e.key with
  | some i =>
    have hst : stored kvs k v = kvs.map (fun kv => if kv.1 = k then (kv.1, v) else kv) := by rw [stored, if_pos (any_of_findIdx_some (hidx ▸ hi))]
    refine wpAny_updateDict ho hd (hQ _ ⟨_, _, ep, Heap.get?_update_self _ ho (Obj.isFreed_of_dict (Obj.data_mapDict hd _)), hc.mapDict _, Obj.data_mapDict hd _, hk.modify _ _, ?_, ?_⟩ (Heap.SameBut.update ..))
    · rw [stored, if_pos (any_of_findIdx_some (hidx ▸ hi))]
      have hl : (es.toList.findIdx? fun e => knd.is k e.key) = some i := by
        rw [← hi]
        obtain ⟨l⟩ := es
        simp
      have h9 := hp.modify hn hl v
      obtain ⟨l⟩ := es
      simpa using h9
    · rw [stored, if_pos (any_of_findIdx_some (hidx ▸ hi)), keys_map_store]
      exact hn
  | none =>
    have hnot : k ∉ kvs.map (·.1) := not_mem_of_findIdx_none (hidx ▸ hi)
    have hany : ¬ (kvs.any fun kv => decide (kv.1 = k)) = true := fun h => by
      obtain ⟨kv, hkv, he⟩ := List.any_eq_true.mp h
      exact hnot (List.mem_map.mpr ⟨kv, hkv, of_decide_eq_true he⟩)
    refine wpAny_updateDictKeys (hz := hes) ho hd (hQ _ ⟨_, _, ep + 1, Heap.get?_update_self _ ho (Obj.isFreed_of_dict (Obj.data_mapDictKeys hd _)), hc.mapDictKeys _, Obj.data_mapDictKeys hd _, hk.push hkey _, ?_, ?_⟩ (Heap.SameBut.update ..))
    · rw [stored, if_neg hany]
      have h9 := hp.append hkey (knd.hash k) v
      obtain ⟨l⟩ := es
      simpa using h9
    · rw [stored, if_neg hany, List.map_append]
      exact L2.nd_snoc hn hnot
theorem lw_mergeMapping {d a : Addr} {kvs more : List (K × Value)} {Q : Unit → Shared → Prop} (hda : d ≠ a) (haS : (a == sysModules) = false) (hT : s.TypeIs (.ref a) "dict") (hnr : ∀ k v, knd.is k v = true → ∀ b, v ≠ .ref b)
    (hd : s.heap.DictOf knd d kvs) (ha : s.heap.DictOf knd a more) (hsz : kvs.length + more.length ≤ sizeLine) (hQ : ∀ h', h'.DictOf knd d (merged kvs more) → h'.DictOf knd a more → Heap.SameBut d s.heap h' → Q () { s with heap := h' }) :
    wpAny (model prog w) A (mergeMapping d (.ref a) false) Q E s := by
  obtain ⟨od, esd, epd, hod, hcd, hdd, hkd, hpd, hnd⟩ := id hd
  obtain ⟨oa, esa, epa, hoa, hca, hda', hka, hpa, hna⟩ := id ha
  unfold mergeMapping
  refine wpAny_bind (wpAny_isInstance (T := "dict") hT PySem.F.sub_dict_dict ?_)
  rw [if_pos rfl]
  refine wpAny_bind (wpAny_specialOf hT PySem.F.slot_dict_iter.lookup (wpAny_bind (wpAny_pure ?_)))
  rw [show (some (Value.builtin "dict.__iter__") == some (Value.builtin "dict.__iter__")) = true from by simp]
  dsimp only
  rw [if_neg (by rw [haS]; exact Bool.false_ne_true)]
  refine wpAny_bind (wpAny_dictEntries hod hdd ?_)
  have hlen : more.length = esa.size := by rw [← hpa.length]; simp
  have main : wpAny (model prog w) A (do
      let __do_lift ← dictEntries a
      let size : Nat := __do_lift.size
      let epoch ← dictEpoch a
      forIn (List.range size) PUnit.unit fun i __s => do
        let __do_lift ← dictEntries a
        match __do_lift[i]? with
        | some e => do
          holding [e.key, e.val] (dictPut d e.hash e.key e.val)
          let __do_lift ← dictEpoch a
          if (__do_lift != epoch) = true then do
            (unsupported "dict.changed-during-merge" : Sem PUnit)
            pure (ForInStep.yield PUnit.unit)
          else pure (ForInStep.yield PUnit.unit)
        | _ => do
          (unsupported "dict.changed-during-merge" : Sem PUnit)
          pure (ForInStep.yield PUnit.unit)
      pure ()) Q E s := by
    refine wpAny_bind (wpAny_dictEntries hoa hda' (wpAny_bind (wpAny_dictEpoch hoa hda' (wpAny_bind ?_))))
    refine wpAny_forIn_list _ (fun rest _ s' => ∃ h' i, s' = { s with heap := h' } ∧ rest = (List.range esa.size).drop i ∧ i ≤ esa.size ∧ h'.DictOf knd d (merged kvs (more.take i)) ∧ h'.get? a = some oa ∧ Heap.SameBut d s.heap h') _ ?_ ?_ _ _ ⟨s.heap, 0, rfl, rfl, Nat.zero_le _, by simpa [merged] using hd, hoa, Heap.SameBut.refl _ _⟩
    · rintro x rest b s' ⟨h', i, rfl, hr, hi, hd', ha', hs'⟩
      have hlt : i < esa.size := by
        rcases Nat.lt_or_ge i esa.size with h | h
        · exact h
        · rw [List.drop_eq_nil_of_le (by simpa using h)] at hr
          cases hr
      rw [List.drop_eq_getElem_cons (by simpa using hlt)] at hr
      obtain ⟨hx, hrest⟩ := List.cons.inj hr
      have hx : x = i := by simpa using hx
      subst hx
      have hlm : x < more.length := by omega
      have hkv : more[x]? = some more[x] := List.getElem?_eq_getElem hlm
      obtain ⟨hkey, hval⟩ := hpa.get? (e := esa[x]) (by simp [hlt]) hkv
      obtain ⟨k', hkey', hhash⟩ := hka esa[x] (Array.getElem_mem hlt)
      have hkk := knd.inj _ _ _ hkey' hkey
      have hmx : (merged kvs (more.take x)).length ≤ sizeLine := by
        have e1 := merged_length_le kvs (more.take x)
        have e2 : (more.take x).length ≤ more.length := by
          rw [List.length_take]
          omega
        omega
      refine wpAny_bind (wpAny_dictEntries ha' hda' ?_)
      rw [Array.getElem?_eq_getElem hlt]
      show wpAny _ _ (holding [esa[x].key, esa[x].val] (dictPut d esa[x].hash esa[x].key esa[x].val) >>= _) _ _ _
      rw [hhash, hval, hkk]
      refine wpAny_bind (wpAny_holding (lw_dictPut hkey hd' hmx fun h2 hd2 hs2 => ?_))
      have ha2 : h2.get? a = some oa := (hs2.2 a (Ne.symm hda)).trans ha'
      refine wpAny_bind (wpAny_dictEpoch ha2 hda' ?_)
      rw [if_neg (by simp)]
      exact wpAny_pure ⟨h2, x + 1, rfl, by simpa using hrest, hlt, by rw [merged_take_succ kvs more x _ hkv]; exact hd2, ha2, hs'.trans hs2⟩
    · rintro b s' ⟨h', i, rfl, hr, hi, hd', ha', hs'⟩
      have hin : i = esa.size := by
        have := congrArg List.length hr
        simp at this
        omega
      refine wpAny_pure (hQ h' ?_ ⟨oa, esa, epa, ha', hca, hda', hka, hpa, hna⟩ hs')
      rw [hin, ← hlen, List.take_length] at hd'
      exact hd'
  split
  · refine wpAny_bind (wpAny_dictEntries hoa hda' (wpAny_bind ?_))
    rw [← Array.forIn_toList]
    refine wpAny_forIn_list _ (fun rest _ s' => s' = s ∧ ∀ e ∈ rest, e ∈ esa) _ ?_ ?_ _ _ ⟨rfl, fun e h => Array.mem_toList_iff.mp h⟩
    · rintro x rest b s' ⟨rfl, hin⟩
      obtain ⟨k, hk, _⟩ := hka x (hin x List.mem_cons_self)
      split
      · rename_i c hc
        exact absurd hc (hnr k _ hk c)
      · exact wpAny_pure ⟨rfl, fun e h => hin e (List.mem_cons_of_mem _ h)⟩
    · rintro b s' ⟨rfl, _⟩
      exact main
  · exact main
end
end PySem

namespace Lw
open PySem PySem.Spec PyProof.Rows L2
theorem lw_display {prog : Program} {w : World} {A : Around} {E : Value → Shared → Prop} {s : Shared} {x k v : Sem Value} {Q : Value → Shared → Prop}
    (h : wpAny (model prog w) A (alloc { cls := .type "dict", data := .dict #[] }) (fun d s1 => wpAny (model prog w) A x (fun m s2 => wpAny (model prog w) A (mergeMapping d m false) (fun _ s3 => wpAny (model prog w) A (subDict [(k, v)]) (fun sub s4 => wpAny (model prog w) A (mergeMapping d (.ref sub) false) (fun _ s5 => Q (.ref d) s5) (fun _ _ => False) s4) E s3) (fun _ _ => False) s2) E s1) E s) :
    wpAny (model prog w) A (dictDisplay [(none, x), (some k, v)]) Q E s := by
  unfold dictDisplay
  dsimp only
  rw [List.forIn_cons]
  dsimp only
  rw [if_pos (show ([] : List (Sem Value × Sem Value)).isEmpty = true from rfl)]
  simp only [pure_bind, bind_assoc]
  refine wpAny_bind (wpAny_mono h (fun d s1 h1 => ?_) fun _ _ e => e)
  refine wpAny_bind (wpAny_holding (wpAny_mono h1 (fun m s2 h2 => ?_) fun _ _ e => e))
  refine wpAny_bind (wpAny_onRaise (wpAny_tryCatch (wpAny_onRaise (wpAny_holding (wpAny_mono h2 (fun _ s3 h3 => ?_) fun _ _ e => e.elim)))))
  rw [List.forIn_cons]
  dsimp only [List.nil_append]
  rw [if_neg (by simp)]
  simp only [pure_bind, List.forIn_nil]
  rw [if_neg (by simp)]
  simp only [bind_assoc, pure_bind]
  refine wpAny_bind (wpAny_holding (wpAny_mono h3 (fun sub s4 h4 => ?_) fun _ _ e => e))
  refine wpAny_bind (wpAny_onRaise (wpAny_holding (wpAny_mono h4 (fun _ s5 h5 => ?_) fun _ _ e => e.elim)))
  exact wpAny_pure h5
/-- {**d, k: v}, keys texts or ints: the new dict, and beside it the one of the pairs -/
def tStar (te tk tv : TE) : TE := fun σ H Q => ∀ p, H p = none → te σ (upd H p (.dK [])) fun y H1 => ∃ a more, y = .ref a ∧ a ≠ p ∧ H1 a = some (.dK more) ∧ H1 p = some (.dK []) ∧ more.length ≤ 1000 ∧
  ∀ q, upd H1 p (.dK (mergeK [] more)) q = none → tk σ (upd (upd H1 p (.dK (mergeK [] more))) q (.dK [])) fun x H2 => tv σ H2 fun y H3 => ∃ (kk : Key) (z : V), [(x, y)] = [(kV kk, z)] ∧ q ≠ p ∧ H3 q = some (.dK []) ∧ H3 p = some (.dK (mergeK [] more)) ∧ Q (.ref p) (upd (upd H3 q (.dK (mergeK [] [(kk, z)]))) p (.dK (mergeK (mergeK [] more) [(kk, z)])))
theorem mix_noref {P : Program} {w : World} : ∀ (k : Key) (v : Value), (mixKind P w).is k v = true → ∀ b, v ≠ .ref b := by
  intro k v h b e
  subst e
  cases k <;> simp [mixKind] at h <;> first | cases h | skip
theorem pe_dstar {X : Cx} {pos : Pos} {e k v : Expr} {te tk tv : TE} (he : PE X e te) (hk : PE X k tk) (hv : PE X v tv) : PE X (.Dict [none, some k] [e, v] pos) (tStar te tk tv) := by
  refine ⟨fun pins s σ H Q I q => ?_⟩
  rw [arm_eval_Dict]
  refine wpAny_bind (wpAny_standAt ?_)
  show wpAny _ _ (dictDisplay [(none, do let x ← eval e X.env; standAt pos; pure x), (some (eval k X.env), do let x ← eval v X.env; standAt pos; pure x)]) _ _ _
  refine lw_display (wpAny_alloc ?_)
  have hn := I.hok.fresh (Nat.le_refl s.heap.objs.size)
  have I1 := I.laid (a := s.heap.objs.size) (o := .dK []) (h' := s.heap.push { cls := .type "dict", data := .dict #[] }) (t' := s.toks) (fun _ _ q => Heap.get?_push_of_some _ q) (Nat.le_refl _) (dk_empty s.heap I.big)
  refine wpAny_bind (thn (he.run pins _ σ _ _ I1 (q _ hn)) fun u s1 ⟨y, H1, I2, ry, a, more, ey, hap, ha, hp, hm, q1⟩ => wpAny_bind (wpAny_standAt (wpAny_pure ?_)))
  subst ey
  cases ry
  obtain ⟨_, ya, va, ra, da⟩ := dk_of I2.hok ha
  obtain ⟨_, yp, vp, rp, dp⟩ := dk_of I2.hok hp
  cases rp
  have hva : va.length ≤ 1000 := by
    rw [← ra.length]
    exact hm
  have h1000 : 2000 ≤ sizeLine := by
    rw [sizeLine_eq]
    omega
  refine lw_mergeMapping (knd := mixKind X.prog X.w) (Ne.symm hap) ya da.typeIs mix_noref dp da (by simp; omega) fun h' d1 d2 hs => ?_
  have hz1 : (mergeK [] more).length ≤ 1000 := by
    have h1 := length_mergeK more []
    rw [List.length_nil] at h1
    omega
  have he1 : ∃ r, h'.get? s.heap.objs.size = some r := let ⟨r, _, _, hr, _⟩ := d1; ⟨r, hr⟩
  have I3 := d_write (t' := s1.toks) I2 (by rw [hp]; exact True.intro) hs he1 (dk_new (by omega) yp (ra.merge .nil) d1)
  have hq := I3.hok.fresh (Nat.le_refl h'.objs.size)
  have I4 := I3.laid (a := h'.objs.size) (o := .dK []) (h' := h'.push { cls := .type "dict", data := .dict #[] }) (t' := s1.toks) (fun _ _ q => Heap.get?_push_of_some _ q) (Nat.le_refl _) (dk_empty h' I3.big)
  have q3 := q1 h'.objs.size hq
  have hev := (pps_cons (pos := pos) hk hv (pps_nil (X := X))).run pins _ σ _ (fun ps H3 => ∃ (kk : Key) (z : V), ps = [(kV kk, z)] ∧ h'.objs.size ≠ s.heap.objs.size ∧ H3 h'.objs.size = some (.dK []) ∧ H3 s.heap.objs.size = some (.dK (mergeK [] more)) ∧ Q (.ref s.heap.objs.size) (upd (upd H3 h'.objs.size (.dK (mergeK [] [(kk, z)]))) s.heap.objs.size (.dK (mergeK (mergeK [] more) [(kk, z)])))) I4 q3
  refine wpAny_subDict (knd := mixKind X.prog X.w) (by simp) (thn hev fun ws s2 ⟨ps, H3, I5, rel, kk, z, ep, hqp, hq3, hp3, qq⟩ => ?_)
  subst ep
  obtain ⟨rs, c, rk⟩ := carries_of (P := X.prog) (w := X.w) (kvs := [(kk, z)]) rel
  obtain ⟨_, yq, vq, rq, dq⟩ := dk_of I5.hok hq3
  cases rq
  refine ⟨rs, c, dq, fun h2 d3 hs2 => ?_⟩
  have hz2 : (mergeK [] [(kk, z)]).length ≤ 1000 := by
    have h1 := length_mergeK [(kk, z)] []
    simp at h1
    omega
  have he2 : ∃ r, h2.get? h'.objs.size = some r := let ⟨r, _, _, hr, _⟩ := d3; ⟨r, hr⟩
  have I6 := d_write (t' := s2.toks + ws.length) I5 (by rw [hq3]; exact True.intro) hs2 he2 (dk_new (by omega) yq (rk.merge .nil) d3)
  have hp6 : (upd H3 h'.objs.size (.dK (mergeK [] [(kk, z)]))) s.heap.objs.size = some (.dK (mergeK [] more)) := (upd_ne (Ne.symm hqp)).trans hp3
  have hq6 : (upd H3 h'.objs.size (.dK (mergeK [] [(kk, z)]))) h'.objs.size = some (.dK (mergeK [] [(kk, z)])) := upd_same
  obtain ⟨_, yp6, vp6, rp6, dp6⟩ := dk_of I6.hok hp6
  obtain ⟨_, yq6, vq6, rq6, dq6⟩ := dk_of I6.hok hq6
  have l1 : vp6.length ≤ 1000 := by
    rw [← rp6.length]
    exact hz1
  have l2 : vq6.length ≤ 1000 := by
    rw [← rq6.length]
    exact hz2
  refine lw_mergeMapping (knd := mixKind X.prog X.w) (Ne.symm hqp) yq6 dq6.typeIs mix_noref dp6 dq6 (by omega) fun h3 d4 d5 hs3 => ?_
  have he3 : ∃ r, h3.get? s.heap.objs.size = some r := let ⟨r, _, _, hr, _⟩ := d4; ⟨r, hr⟩
  have hz3 : (mergeK (mergeK [] more) [(kk, z)]).length ≤ 1001 := by
    have h1 := length_mergeK [(kk, z)] (mergeK [] more)
    simp at h1
    omega
  have hm1 : mergeK [] [(kk, z)] = [(kk, z)] := rfl
  rw [hm1] at rq6
  exact ⟨.ref s.heap.objs.size, _, d_write (t' := s2.toks + ws.length) I6 (by rw [hp6]; exact True.intro) hs3 he3 (dk_new (by omega) yp6 (rq6.merge rp6) d4), rfl, qq⟩
end Lw

namespace LwN
open PySem PySem.Spec PyProof.Rows PySem.SeqAt
open AutoSeq1 (wpAny_loadPart')
open MeetsSeq MeetsSeq2 MeetsSeq3 SeqRoads2
section
variable {prog : Program} {w : World} {A : Around} {R : Result → Shared → Prop}
abbrev FinOf (prog : Program) (w : World) (A : Around) (R : Result → Shared → Prop) : Fin → Shared → Prop := fun fin s' => match fin with
  | .done f => R (.ok f) s'
  | .again c' => c'.quiet = true ∧ codeAny (model prog w) A c' R s'
/-- at each turn the list is read anew: N items, the i-th isn't equal to x -/
def ContI (prog : Program) (w : World) (A : Around) (E : Value → Shared → Prop) (l : Addr) (x : Value) (N : Nat) (I : Nat → Shared → Prop) : Prop :=
  ∀ i s, I i s → ∃ (items : Array Value) (n : Nat), s.heap.get? l = some { cls := .type "list", data := .seq items n } ∧ items.size = N ∧
    ∀ (h1 : i < items.size), wpAny (model prog w) A.in1 (eqBool items[i] x) (fun r s' => r = false ∧ I (i + 1) s') E s
theorem cont_loop (l : Addr) (x : Value) (N : Nat) (I : Nat → Shared → Prop) (hl : ContI prog w A (fun e s' => R (.error e) s') l x N I)
    (fin : ∀ s, I N s → R (.ok (.ret (.bool false))) s) (k : Nat) :
    ∀ i : Nat, N - i = k → i ≤ N → ∀ s, I i s →
      wpAny (model prog w) A.in1 (Builtin.«list.__contains__.loop» ⟨[.ref l, x, rawInt i], []⟩) (FinOf prog w A R) (fun e s' => R (.error e) s') s := by
  induction k with
  | zero =>
    intro i hk hi s h
    obtain ⟨items, n, hl1, hs1, _⟩ := hl _ _ h
    have hi' : i = N := by omega
    have hR : R (.ok (.ret (.bool false))) s := fin s (hi' ▸ h)
    obtain ⟨hp, g, d, tk, os⟩ := s
    wp_walk using wpAny_loadPart' hl1
    have hi1 : items[((i : Nat) : Int).toNat]? = none := by simp; omega
    rw [hi1]
    wp_walk using wpAny_loadPart' hl1
    exact hR
  | succ k ih =>
    intro i hk hi s h
    obtain ⟨items, n, hl1, hs1, turn⟩ := hl _ _ h
    have hlt : i < items.size := by omega
    have ht := turn hlt
    obtain ⟨hp, g, d, tk, os⟩ := s
    wp_walk using wpAny_loadPart' hl1
    have hi1 : items[((i : Nat) : Int).toNat]? = some items[i] := by simp [hlt]
    have hc : ((i : Int) + 1) = ((i + 1 : Nat) : Int) := by omega
    rw [hi1]
    refine wpAny_bind (wpAny_mono ht (fun r s2 h2 => ?_) fun _ _ x => x)
    obtain ⟨hr, h2⟩ := h2
    subst hr
    have hrec := ih (i + 1) (by omega) (by omega) s2 h2
    obtain ⟨hp2, g2, d2, tk2, os2⟩ := s2
    wp_walk
    rw [hc]
    exact ⟨plainId_quiet plain_contains_loop _, codeAny_builtin entry_contains_loop (by
      rw [Around.under_plainId plain_contains_loop _]
      exact hrec)⟩
theorem list_contG (l : Addr) (x : Value) (N : Nat) (I : Nat → Shared → Prop) (hl : ContI prog w A (fun e s' => R (.error e) s') l x N I)
    (fin : ∀ s, I N s → R (.ok (.ret (.bool false))) s) {s : Shared} (h : I 0 s) :
    wpAny (model prog w) A.in1 (Builtin.«list.__contains__» ⟨[.ref l, x], []⟩) (FinOf prog w A R) (fun e s' => R (.error e) s') s := by
  obtain ⟨items, n, hl1, hs1, _⟩ := hl _ _ h
  have hrec := cont_loop (A := A) (R := R) l x N I hl fin _ 0 rfl (Nat.zero_le _) s h
  obtain ⟨hp, g, d, tk, os⟩ := s
  wp_walk using wpAny_loadPart' hl1
  exact ⟨plainId_quiet plain_contains_loop _, codeAny_builtin entry_contains_loop (by
    rw [Around.under_plainId plain_contains_loop _]
    exact hrec)⟩
end
section
variable {prog : Program} {w : World} {A : Around} {E : Value → Shared → Prop} {s : Shared}
theorem call_here {T : String} {name : Str} {id : String} {B : Builtin} {self : Value} {rest : List Value} {Q : Value → Shared → Prop} (slot : Slot T name id) (hT : s.TypeIs self T)
    (entry : entryFor table id = some B) (args : argsOk id ⟨self :: rest, []⟩)
    (h : wpAny (model prog w) A.in1 (B ⟨self :: rest, []⟩) (FinOf prog w A (wants Q E)) (fun e s' => wants Q E (.error e) s') s) :
    wpAny (model prog w) A (call (.builtin id) (self :: rest)) Q E s :=
  wpAny_call (codeAny_call_builtin slot.plain entry (slot.check _ _ _ _ _ _ _ _ hT args h))
theorem in_listG {l : Addr} {x : Value} {N : Nat} {Q : Value → Shared → Prop} (I : Nat → Shared → Prop) (hl : ContI prog w A E l x N I) (fin : ∀ s, I N s → Q (.bool false) s) (h : I 0 s) :
    wpAny (model prog w) A (compareOp .In x (.ref l)) Q E s := by
  obtain ⟨items, n, hl1, _, _⟩ := hl _ _ h
  refine PyProof.Rows.In_slot ⟨_, hl1, rfl⟩ F.slot_list_contains (wpAny_mono (Q := fun v s' => ∃ b, v = .bool b ∧ Q (.bool b) s') (call_here F.slot_list_contains ⟨_, hl1, rfl⟩ F.entry_list_contains (F.args_list_contains_2 _ _) ?_) (fun v s' hv => ?_) fun _ _ e => e)
  · exact list_contG (R := wants (fun v s' => ∃ b, v = .bool b ∧ Q (.bool b) s') E) l x N I hl (fun s' q => ⟨false, rfl, fin s' q⟩) h
  · obtain ⟨b, rfl, hq⟩ := hv
    exact wpAny_truthy_bool hq
end
section
variable {M : Model} {prog : Program} {w : World} {A : Around} {E : Value → Shared → Prop} {s : Shared} {K : PySem.W.Frag} {x C : Addr} {ox : Obj} {od : Option Obj}
theorem isI {R : Bool → Shared → Prop} {b : Value} {r : Bool} (X : K.In s.heap) (I : PySem.W.InstAt s.heap x ox C od) (hs : PySem.W.subIn K (.ref C) b = some r) (h : R r s) : wpAny M A (isInstance (.ref x) b) R E s := by
  unfold isInstance
  exact wpAny_bind (I.type.here ((PySem.W.looks_subIn X hs).here h))
theorem list_decl {l : Addr} {items : Array Value} {n : Nat} {dd : Option Addr} {sl : Array (Option Value)} {Q : Fin → Shared → Prop} (X : K.In s.heap) (I : PySem.W.InstAt s.heap x ox C od) (hs : PySem.W.subIn K (.ref C) (.type "list") = some false)
    (hl : s.heap.get? l = some { cls := .type "list", dict := dd, data := .seq items n, slots := sl }) (hq : Q (.done (.ret .notImplemented)) s) : wpAny M A (Builtin.«list.__eq__» ⟨[.ref l, .ref x], []⟩) Q E s := by
  obtain ⟨hp, g, d, tk, os⟩ := s
  wp_walk using wpAny_loadPart' hl, (isI X I hs)
  exact hq
theorem tup_decl {l : Addr} {items : Array Value} {n : Nat} {dd : Option Addr} {sl : Array (Option Value)} {Q : Fin → Shared → Prop} (X : K.In s.heap) (I : PySem.W.InstAt s.heap x ox C od) (hs : PySem.W.subIn K (.ref C) (.type "tuple") = some false)
    (hl : s.heap.get? l = some { cls := .type "tuple", dict := dd, data := .seq items n, slots := sl }) (hq : Q (.done (.ret .notImplemented)) s) : wpAny M A (Builtin.«tuple.__eq__» ⟨[.ref l, .ref x], []⟩) Q E s := by
  obtain ⟨hp, g, d, tk, os⟩ := s
  wp_walk using wpAny_loadPart' hl, (isI X I hs)
  exact hq
theorem dict_decl {l : Addr} {o : Obj} {Q : Fin → Shared → Prop} (X : K.In s.heap) (I : PySem.W.InstAt s.heap x ox C od) (hs : PySem.W.subIn K (.ref C) (.type "dict") = some false)
    (hl : s.heap.get? l = some o) (hq : Q (.done (.ret .notImplemented)) s) : wpAny M A (Builtin.«dict.__eq__» ⟨[.ref l, .ref x], []⟩) Q E s := by
  obtain ⟨hp, g, d, tk, os⟩ := s
  wp_walk using wpAny_loadPart' hl, (isI X I hs)
  exact hq
theorem int_decl {i : Int} {t : Tok} {dx : Addr} {Q : Fin → Shared → Prop} (hx : s.heap.get? x = some (PySem.W.instObj C dx))
    (hq : Q (.done (.ret .notImplemented)) s) : wpAny M A (Builtin.«int.__eq__» ⟨[.int i t, .ref x], []⟩) Q E s := by
  obtain ⟨hp, g, d, tk, os⟩ := s
  wp_walk using wpAny_loadPart' hx
  exact hq
theorem str_decl {i : Str} {t : Tok} {dx : Addr} {Q : Fin → Shared → Prop} (hx : s.heap.get? x = some (PySem.W.instObj C dx))
    (hq : Q (.done (.ret .notImplemented)) s) : wpAny M A (Builtin.«str.__eq__» ⟨[.str i t, .ref x], []⟩) Q E s := by
  obtain ⟨hp, g, d, tk, os⟩ := s
  wp_walk using wpAny_loadPart' hx
  exact hq

theorem try_decl {T : String} {id : String} {B : Builtin} {u : Value} {Q : Option Value → Shared → Prop} (hT : s.TypeIs u T) (slot : Slot T "__eq__" id) (entry : entryFor table id = some B) (args : argsOk id ⟨[u, .ref x], []⟩)
    (hd : ∀ R : Result → Shared → Prop, R (.ok (.ret .notImplemented)) s → wpAny (model prog w) A.in1 (B ⟨[u, .ref x], []⟩) (FinOf prog w A R) (fun e s' => R (.error e) s') s) (hq : Q none s) :
    wpAny (model prog w) A (tryCompare u "__eq__" (.ref x)) Q E s :=
  wpAny_tryCompare_declines hT slot (call_here slot hT entry args (hd (wants (fun v s' => v = .notImplemented ∧ Q none s') E) ⟨rfl, hq⟩))
/-- u == x, where u's type knows nothing of x's class, and x has an own __eq__ -/
theorem rc_foreign {f : Addr} {T : String} {u : Value} {Q : Bool → Shared → Prop} (hu : A.units < cLine) (X : K.In s.heap) (I : PySem.W.InstAt s.heap x ox C od) (hT : s.TypeIs u T)
    (hsub : PySem.W.subIn K (.ref C) (.type T) = some false) (hs : PySem.W.findIn K (.ref C) "__eq__" = some (some (.ref f))) (hf : PySem.W.isFn K (.ref f) = true) (hone : oneThing? .Eq u (.ref x) = none)
    (dec : ∀ Q : Option Value → Shared → Prop, Q none s → wpAny (model prog w) A (tryCompare u "__eq__" (.ref x)) Q E s)
    (own : wpAny (model prog w) A (call (.ref f) [.ref x, u]) (fun v s' => ∃ b, v = .bool b ∧ Q b s') E s) : wpAny (model prog w) A (richCompare .Eq u (.ref x)) (fun v s' => ∃ b, v = Value.bool b ∧ Q b s') E s := by
  have two : wpAny (model prog w) A (tryCompare (.ref x) "__eq__" u) (fun r s' => ∃ b, r = some (.bool b) ∧ Q b s') E s := by
    unfold tryCompare
    refine wpAny_bind (PySem.W.ifBound_K X I hs hf (wpAny_mono own (fun v s' hv => ?_) fun _ _ e => e))
    obtain ⟨b, rfl, hq⟩ := hv
    exact wpAny_pure ⟨b, rfl, hq⟩
  simp only [richCompare, cmpInfo_Eq, hone]
  refine wpAny_holding (wpAny_bind (wpAny_cRoomFor hu ?_))
  refine wpAny_bind (wpAny_typeOf hT ?_)
  refine wpAny_bind (I.type.here ?_)
  rw [if_pos (by simp)]
  refine wpAny_bind ((PySem.W.looks_subIn X hsub).here ?_)
  simp only [Bool.false_eq_true, if_false, Bool.not_false, if_true]
  refine wpAny_bind (dec _ ?_)
  refine wpAny_bind (wpAny_mono two (fun r s' z => ?_) fun _ _ e => e)
  obtain ⟨b, rfl, hq⟩ := z
  exact wpAny_pure ⟨b, rfl, hq⟩
theorem eqB_non {Q : Bool → Shared → Prop} (h : wpAny (model prog w) A (richCompare .Eq .none (.ref x)) (fun v s' => ∃ b, v = Value.bool b ∧ Q b s') E s) : wpAny (model prog w) A (eqBool .none (.ref x)) Q E s := by
  unfold eqBool
  refine wpAny_holding (wpAny_ite_split (fun hab => absurd (eq_of_beq hab) nofun) fun _ => wpAny_bind (wpAny_mono h (fun v s' hv => ?_) fun _ _ e => e))
  obtain ⟨b, rfl, hq⟩ := hv
  exact wpAny_truthy_bool hq
theorem eqB_int {i : Int} {t : Tok} {Q : Bool → Shared → Prop} (h : wpAny (model prog w) A (richCompare .Eq (.int i t) (.ref x)) (fun v s' => ∃ b, v = Value.bool b ∧ Q b s') E s) : wpAny (model prog w) A (eqBool (.int i t) (.ref x)) Q E s := by
  unfold eqBool
  refine wpAny_holding (wpAny_ite_split (fun hab => absurd (eq_of_beq hab) nofun) fun _ => wpAny_bind (wpAny_mono h (fun v s' hv => ?_) fun _ _ e => e))
  obtain ⟨b, rfl, hq⟩ := hv
  exact wpAny_truthy_bool hq
theorem eqB_str {i : Str} {t : Tok} {Q : Bool → Shared → Prop} (h : wpAny (model prog w) A (richCompare .Eq (.str i t) (.ref x)) (fun v s' => ∃ b, v = Value.bool b ∧ Q b s') E s) : wpAny (model prog w) A (eqBool (.str i t) (.ref x)) Q E s := by
  unfold eqBool
  refine wpAny_holding (wpAny_ite_split (fun hab => absurd (eq_of_beq hab) nofun) fun _ => wpAny_bind (wpAny_mono h (fun v s' hv => ?_) fun _ _ e => e))
  obtain ⟨b, rfl, hq⟩ := hv
  exact wpAny_truthy_bool hq
theorem eqB_ref {y : Addr} {Q : Bool → Shared → Prop} (hne : y ≠ x) (h : wpAny (model prog w) A (richCompare .Eq (.ref y) (.ref x)) (fun v s' => ∃ b, v = Value.bool b ∧ Q b s') E s) : wpAny (model prog w) A (eqBool (.ref y) (.ref x)) Q E s := by
  unfold eqBool
  refine wpAny_holding (wpAny_ite_split (fun hab => absurd (by have := eq_of_beq hab; injection this) hne) fun _ => wpAny_bind (wpAny_mono h (fun v s' hv => ?_) fun _ _ e => e))
  obtain ⟨b, rfl, hq⟩ := hv
  exact wpAny_truthy_bool hq
/-- the other's own __ne__ is object's: it asks the own __eq__ -/
theorem ifBound_objNe {args : List Value} {Q : Option Value → Shared → Prop} (X : K.In s.heap) (I : PySem.W.InstAt s.heap x ox C od) (hs : PySem.W.findIn K (.ref C) "__ne__" = some (some (.builtin "object.__ne__")))
    (h : wpAny M A (call (.builtin "object.__ne__") (.ref x :: args)) (fun v => Q (some v)) E s) : wpAny M A (callSpecialIfBound? (.ref x) "__ne__" args) Q E s := by
  simp only [callSpecialIfBound?, bindSpecialIfBound?]
  refine wpAny_holding (wpAny_bind (wpAny_bind (wpAny_bind (I.type.here ((PySem.W.looks_findIn X hs).here ?_)))))
  refine wpAny_bind (wpAny_askSetting (wpAny_ite ?_))
  have fin : wpAny M A (call (.builtin "object.__ne__") ([.ref x] ++ args) >>= fun v => pure (some v)) Q E s := wpAny_bind (wpAny_mono h (fun v s' h' => wpAny_pure h') fun _ _ h' => h')
  split
  · exact wpAny_bind (wpAny_of_eq (F.cmp_object.ne.bind _) (wpAny_pure (by exact fin)))
  · exact wpAny_tryCatch (wpAny_bind (wpAny_of_eq (F.cmp_object.ne.bind _) (wpAny_pure (by exact fin))))
theorem objNe_own {f : Addr} {b : Value} {Q : Fin → Shared → Prop} (hu : A.units < cLine) (X : K.In s.heap) (I : PySem.W.InstAt s.heap x ox C od) (hs : PySem.W.findIn K (.ref C) "__eq__" = some (some (.ref f))) (hf : PySem.W.isFn K (.ref f) = true)
    (h : wpAny (model prog w) A (call (.ref f) [.ref x, b]) (fun v s' => ∃ r, v = .bool r ∧ Q (.done (.ret (.bool (!r)))) s') E s) :
    wpAny (model prog w) A (Builtin.«object.__ne__» ⟨[.ref x, b], []⟩) Q E s := by
  unfold Builtin.«object.__ne__»
  repeat (first
    | with_reducible refine wpAny_cRoomFor hu ?_
    | (refine wpAny_bind (m := callSpecialIfBound? (.ref x) (Str.ofString "__eq__") [b])
        (PySem.W.ifBound_K X I hs hf (wpAny_mono h (fun r s' hr => by
          obtain ⟨b, rfl, hq⟩ := hr
          repeat (first | exact hq | exact wpAny_pure hq | exact wpAny_truthy_bool hq | (refine wpAny_bind (m := truthy (.bool _)) (wpAny_truthy_bool ?_)) | wp_step)) fun _ _ e => e)))
    | wp_step)
theorem ne_own {f y : Addr} {oy : Obj} {ody : Option Obj} {Q : Value → Shared → Prop} (hu : A.units + 1 < cLine) (X : K.In s.heap) (I : PySem.W.InstAt s.heap x ox C od) (J : PySem.W.InstAt s.heap y oy C ody)
    (hn : PySem.W.findIn K (.ref C) "__ne__" = some (some (.builtin "object.__ne__"))) (hm : PySem.W.mroIn K C (.type "object") = some true) (hs : PySem.W.findIn K (.ref C) "__eq__" = some (some (.ref f))) (hf : PySem.W.isFn K (.ref f) = true)
    (h : wpAny (model prog w) A.in1 (call (.ref f) [.ref x, .ref y]) (fun v s' => ∃ r, v = .bool r ∧ Q (.bool (!r)) s') E s) : wpAny (model prog w) A (richCompare .NotEq (.ref x) (.ref y)) Q E s := by
  have one : wpAny (model prog w) A (tryCompare (.ref x) "__ne__" (.ref y)) (fun r s' => ∃ v, r = some v ∧ Q v s') E s := by
    unfold tryCompare
    refine wpAny_bind (ifBound_objNe X I hn (wpAny_call (codeAny_call_builtin F.cmp_object.ne.plain F.cmpEntry_ne (PySem.W.check_slot F.cmpKind_ne F.cmpSplit_ne (I.type.andThen (PySem.W.looks_mroIn X hm)) (F.cmpArgs_ne _ _) (objNe_own hu X I hs hf (wpAny_mono h (fun v s' hv => ?_) fun _ _ e => e))))))
    obtain ⟨r, rfl, hq⟩ := hv
    exact ⟨r, rfl, wpAny_pure ⟨_, rfl, hq⟩⟩
  unfold richCompare
  simp only [oneThing_ref]
  refine wpAny_holding (wpAny_bind (wpAny_cRoomFor (Nat.lt_of_succ_lt hu) ?_))
  rw [cmpInfo_NotEq]
  dsimp only
  refine wpAny_bind (I.type.here (wpAny_bind (J.type.here ?_)))
  rw [show (Value.ref C != Value.ref C) = false from by simp]
  simp only [Bool.false_eq_true, if_false]
  refine wpAny_bind (wpAny_pure ?_)
  simp only [Bool.false_eq_true, if_false]
  refine wpAny_bind (wpAny_mono one (fun r s' z => ?_) fun _ _ e => e)
  obtain ⟨v, rfl, hq⟩ := z
  exact wpAny_pure hq
end
end LwN

namespace Lw
open PySem PySem.Spec PyProof.Rows L2
/-! ### a != b and a in [..] by an own __eq__ -/
section
variable {X : Cx} {CX : CXT} {n : Nat} {C f : Addr} {fd : FuncData} {ps : List Str} {sp : Sp} {E : XK}
theorem own_call {A : Around} (F : FnOk X.prog X.w X.K X.mg X.base CX n f fd ps sp) (hb : Binds X.K fd ps []) (hx : Passes CX X E) (sb : Sub X n A) {pins : List (Addr × Obj)} {s : Shared} {σ : L2.St} {H : Hp} {x y : V} {u v : Value} (I : Inv X pins σ H s) (rx : RelV x u) (ry : RelV y v)
    {P : V → Hp → Prop} (h : sp [x, y] H P E) : wpAny (model X.prog X.w) A (call (.ref f) [u, v]) (fun w s' => ∃ z H', Inv X pins σ H' s' ∧ RelV z w ∧ P z H') X.xe s := by
  have e0 : Env0 X.prog X.w X.K X.mg X.base A X.stack s H := by
    have e := I.env0
    exact ⟨by rw [sb.fr]; exact e.frames, e.mod, e.bs, e.bsz, e.funs, e.frf, e.hok, e.bare⟩
  have hl := F.len _ _ _ _ h
  have r2 : Vals [x, y] [u, v] := .cons rx (.cons ry .nil)
  refine wpAny_call (codeAny_mono (F.run A X.stack s H ⟨[u, v], []⟩ [u, v] [x, y] _ E sb.room e0 (by
    have := hb s [u, v] I.kIn (by simpa using hl)
    simpa using this) r2 h) fun r s' hq => ?_)
  cases r with
  | error e => exact hx pins σ H s e s' I hq
  | ok fl =>
    cases fl with
    | ret w =>
      obtain ⟨z, H', I', rz, q⟩ := I.after hq
      exact ⟨z, H', I', rz, q⟩
    | next => exact False.elim hq
    | brk => exact False.elim hq
    | cont => exact False.elim hq
def rOwnNe (C : Addr) (sp : Sp) (E : XK) : R2 := fun x y H Q => ∃ a b dx dy fs gs, x = .ref a ∧ y = .ref b ∧ H a = some (.ins C dx fs) ∧ H b = some (.ins C dy gs) ∧ sp [.ref a, .ref b] H (fun v H' => ∃ r, v = .bl r ∧ Q (.bl (!r)) H') E
/-- what != and in by an own == want of the class -/
structure OwnNe (K : PySem.W.Frag) (C : Addr) : Prop where
  ne : PySem.W.findIn K (.ref C) "__ne__" = some (some (.builtin "object.__ne__"))
  ob : PySem.W.mroIn K C (.type "object") = some true
theorem op_neOwn (O : OwnEq X.K C f) (N : OwnNe X.K C) (F : FnOk X.prog X.w X.K X.mg X.base CX n f fd ps sp) (hr : Room (n + 1) X.A) (hb : Binds X.K fd ps []) (hx : Passes CX X E) : OpR X (compareOp .NotEq) (rOwnNe C sp E) := by
  intro pins s σ H x y u v Q I rx ry h
  obtain ⟨a, b, dx, dy, fs, gs, rfl, rfl, ha, hb', q⟩ := h
  cases rx
  cases ry
  obtain ⟨_, J, _⟩ := ins_get I.hok ha
  obtain ⟨_, J', _⟩ := ins_get I.hok hb'
  obtain ⟨_, J, _⟩ := J.look
  obtain ⟨_, J', _⟩ := J'.look
  show wpAny (model X.prog X.w) X.A (richCompare .NotEq (.ref a) (.ref b)) (EP X pins σ Q) X.xe s
  refine LwN.ne_own (by have := hr.un; omega) I.kIn J J' N.ne N.ob O.at_ O.fn (wpAny_mono (own_call F hb hx ⟨hr.in1, rfl⟩ I (show RelV (.ref a) (.ref a) from rfl) (show RelV (.ref b) (.ref b) from rfl) q) (fun w s' hw => ?_) fun _ _ e => e)
  obtain ⟨z, H', I', rz, r, rfl, q2⟩ := hw
  cases rz
  exact ⟨r, rfl, .bl (!r), H', I', rfl, q2⟩
/-- values of other kinds -/
inductive Fgn (H : Hp) : V → String → Prop where
  | non : Fgn H .non "NoneType"
  | int (i : Int) : Fgn H (.int i) "int"
  | str (z : Str) : Fgn H (.str z) "str"
  | lst {a : Addr} {xs : List V} (e : H a = some (.lst xs)) : Fgn H (.ref a) "list"
  | tup {a : Addr} {xs : List V} (e : H a = some (.tup xs)) : Fgn H (.ref a) "tuple"
  | dK {a : Addr} {kvs : List (Key × V)} (e : H a = some (.dK kvs)) : Fgn H (.ref a) "dict"
theorem Fgn.ex {H H1 : Hp} {v : V} {T : String} (h : Fgn H v T) (e : Evl.Ex H H1) : Fgn H1 v T := by
  cases h with
  | non => exact .non
  | int i => exact .int i
  | str z => exact .str z
  | lst h => exact .lst (e _ _ h)
  | tup h => exact .tup (e _ _ h)
  | dK h => exact .dK (e _ _ h)
theorem Fgn.ty {K : PySem.W.Frag} {H : Hp} {v : V} {T : String} (h : Fgn H v T) : TyOf K H v (.type T) := by
  cases h with
  | non => exact .non
  | int i => exact .int i
  | str z => exact .str z
  | lst h => exact .lst h
  | tup h => exact .tup h
  | dK h => exact .dK h
/-- the class isn't under another's -/
def Alone (K : PySem.W.Frag) (C : Addr) : Prop := ∀ T ∈ ["NoneType", "int", "str", "list", "tuple", "dict"], PySem.W.subIn K (.ref C) (.type T) = some false
theorem Fgn.mem {H : Hp} {v : V} {T : String} (h : Fgn H v T) : T ∈ ["NoneType", "int", "str", "list", "tuple", "dict"] := by
  cases h <;> simp
theorem fgn_eq {A : Around} {pins : List (Addr × Obj)} {s : Shared} {σ : L2.St} {H : Hp} {a dx : Addr} {fs : List (Str × V)} {v : V} {u : Value} {T : String} {Q : Bool → Shared → Prop} (O : OwnEq X.K C f) (al : Alone X.K C) (hu : A.units < cLine) (I : Inv X pins σ H s) (ha : H a = some (.ins C dx fs)) (rv : RelV v u) (h : Fgn H v T)
    (own : wpAny (model X.prog X.w) A (call (.ref f) [.ref a, u]) (fun v s' => ∃ b, v = Value.bool b ∧ Q b s') X.xe s) : wpAny (model X.prog X.w) A (eqBool u (.ref a)) Q X.xe s := by
  obtain ⟨_, J0, _⟩ := ins_get I.hok ha
  obtain ⟨_, J, _⟩ := J0.look
  have hx : s.heap.get? a = some (PySem.W.instObj C dx) := J0.1
  have hsub := al T h.mem
  have go : ∀ {w : Value}, u = w → s.TypeIs w T → oneThing? .Eq w (.ref a) = none → (∀ Q : Option Value → Shared → Prop, Q none s → wpAny (model X.prog X.w) A (tryCompare w "__eq__" (.ref a)) Q X.xe s) → wpAny (model X.prog X.w) A (richCompare .Eq w (.ref a)) (fun v s' => ∃ b, v = Value.bool b ∧ Q b s') X.xe s := fun {w} e hT h1 dec => by
    subst e
    exact LwN.rc_foreign hu I.kIn J hT hsub O.at_ O.fn h1 dec own
  cases h with
  | non =>
    cases (show u = Value.none from rv)
    exact LwN.eqB_non (go rfl rfl rfl fun Q q => wpAny_tryCompare_declines (show s.TypeIs .none "NoneType" from rfl) F.slot_NoneType_eq_refl (call_gives F.slot_NoneType_eq_refl rfl F.entry_NoneType_eq (F.args_NoneType_eq_2 _ _) (SeqAt.NoneType___eq___none_ref_0 a) ⟨rfl, q⟩))
  | int i =>
    obtain ⟨t, e⟩ := (show ∃ t, u = Value.int i t from rv)
    subst e
    exact LwN.eqB_int (go rfl rfl rfl fun Q q => LwN.try_decl (T := "int") rfl F.slot_int_eq F.entry_int_eq (F.args_int_eq_2 _ _) (fun R r => LwN.int_decl hx r) q)
  | str i =>
    obtain ⟨t, e⟩ := (show ∃ t, u = Value.str i t from rv)
    subst e
    exact LwN.eqB_str (go rfl rfl rfl fun Q q => LwN.try_decl (T := "str") rfl F.slot_str_eq F.entry_str_eq (F.args_str_eq_2 _ _) (fun R r => LwN.str_decl hx r) q)
  | lst e =>
    rename_i b xs
    cases (show u = Value.ref b from rv)
    have hne : b ≠ a := fun z => by
      rw [z, ha] at e
      cases e
    obtain ⟨z, its, k, r, e2⟩ := I.hok b _ e
    exact LwN.eqB_ref hne (go rfl ⟨_, e2, rfl⟩ rfl fun Q q => LwN.try_decl (T := "list") ⟨_, e2, rfl⟩ F.slot_list_eq F.entry_list_eq (F.args_list_eq_2 _ _) (fun R r => LwN.list_decl I.kIn J hsub e2 r) q)
  | tup e =>
    rename_i b xs
    cases (show u = Value.ref b from rv)
    have hne : b ≠ a := fun z => by
      rw [z, ha] at e
      cases e
    obtain ⟨its, r, e2, _⟩ := I.tuple (.inl (.inl e))
    obtain ⟨⟨cls, dd, data, sl⟩, ho, hc, m, hd⟩ := id e2
    simp only at hc hd
    subst hc hd
    exact LwN.eqB_ref hne (go rfl ⟨_, ho, rfl⟩ rfl fun Q q => LwN.try_decl (T := "tuple") ⟨_, ho, rfl⟩ F.slot_tuple_eq F.entry_tuple_eq (F.args_tuple_eq_2 _ _) (fun R r => LwN.tup_decl I.kIn J hsub ho r) q)
  | dK e =>
    rename_i b kvs
    cases (show u = Value.ref b from rv)
    have hne : b ≠ a := fun z => by
      rw [z, ha] at e
      cases e
    have hT : s.TypeIs (.ref b) "dict" := L2.dict_typeIs I (DGet.k (k := .inr "") e)
    obtain ⟨o, ho, hc⟩ := id hT
    exact LwN.eqB_ref hne (go rfl hT rfl fun Q q => LwN.try_decl (T := "dict") hT F.slot_dict_eq F.entry_dict_eq (F.args_dict_eq_2 _ _) (fun R r => LwN.dict_decl I.kIn J hsub ho r) q)
/-- o in [..]: none of the items is of o's class, and the own == says no to each -/
def rInOwn (C : Addr) (sp : Sp) (E : XK) : R2 := fun x y H Q => ∃ a b dx fs xs, x = .ref a ∧ y = .ref b ∧ H a = some (.ins C dx fs) ∧ H b = some (.lst xs) ∧
  (∀ v ∈ xs, ∃ T, Fgn H v T ∧ ∀ H1, Evl.Ex H H1 → sp [.ref a, v] H1 (fun w H' => w = .bl false ∧ Evl.Ex H1 H') E) ∧ ∀ H', Evl.Ex H H' → Q (.bl false) H'
theorem op_inOwn (O : OwnEq X.K C f) (al : Alone X.K C) (F : FnOk X.prog X.w X.K X.mg X.base CX n f fd ps sp) (hr : Room (n + 1) X.A) (hb : Binds X.K fd ps []) (hx : Passes CX X E) : OpR X (compareOp .In) (rInOwn C sp E) := by
  intro pins s σ H x y u v Q I rx ry h
  obtain ⟨a, b, dx, fs, xs, rfl, rfl, ha, hb', hs, q⟩ := h
  cases rx
  cases ry
  refine LwN.in_listG (N := xs.length) (fun _ s' => ∃ H', Inv X pins σ H' s' ∧ Evl.Ex H H') (fun i s' h => ?_) (fun s' h => ?_) ⟨H, I, Evl.Ex.refl _⟩
  · obtain ⟨H1, I1, e1⟩ := h
    obtain ⟨z, its, k, r, e⟩ := I1.hok b _ (e1 _ _ hb')
    refine ⟨its.toArray, k, e, by rw [List.size_toArray, ← r.length], fun h1 => ?_⟩
    have k1 : i < xs.length := by rw [r.length]; simpa using h1
    obtain ⟨w, hw, rw'⟩ := r.get (List.getElem?_eq_getElem k1)
    have g1 : its[i]? = some its.toArray[i] := by
      have h1' : i < its.length := by simpa using h1
      rw [List.getElem?_eq_getElem h1'] <;> simp
    rw [g1] at hw
    rw [Option.some.inj hw]
    obtain ⟨T, hf, hsp⟩ := hs _ (List.getElem_mem k1)
    refine fgn_eq O al hr.in1.units0 I1 (e1 _ _ ha) rw' (hf.ex e1) (wpAny_mono (own_call F hb hx ⟨hr.in1, rfl⟩ I1 (show RelV (.ref a) (.ref a) from rfl) rw' (hsp H1 e1)) (fun w s' hw => ?_) fun _ _ e => e)
    obtain ⟨z, H', I', rz, rfl, e'⟩ := hw
    cases rz
    exact ⟨false, rfl, rfl, H', I', e1.trans e'⟩
  · obtain ⟨H1, I1, e1⟩ := h
    exact ⟨.bl false, H1, I1, rfl, q H1 e1⟩
end
end Lw

namespace Lw
open PySem PySem.Spec PyProof.Rows L2
/-! ### a dict that is walked: it stands locked meanwhile -/
theorem Ex.lock {H H1 : Hp} {d : Addr} {u z : HO} (hd : H d = some u) (e : Evl.Ex (upd H d z) H1) : Evl.Ex H (upd H1 d u) := fun c o hc => by
  by_cases h : c = d
  · subst h
    rw [upd_same, ← hd]
    exact hc
  · rw [upd_ne h]
    refine e _ _ ?_
    rw [upd_ne h]
    exact hc
theorem Ex.locked {H H0 : Hp} {d : Addr} {z : HO} (e : Evl.Ex H H0) : Evl.Ex (upd H d z) (upd H0 d z) := fun c o hc => by
  by_cases h : c = d
  · subst h
    rw [upd_same] at hc ⊢
    exact hc
  · rw [upd_ne h] at hc ⊢
    exact e _ _ hc
section
variable {σ : L2.St} {H : Hp} {tl te : TE}
/-- [e for k in d] -/
theorem el_lcK {j : Nat} {vs : List Nat} {d : Addr} {kvs : List (Key × V)} {ks : List Str} (g : Str → V) (hd : H d = some (.dK kvs)) (hk : KD kvs ks) (h : ∀ od, Evl.Ev tl σ (upd H d (.frz od (.dK kvs))) (.ref d)) (hz : ks.length ≤ 40000) (hw : ∀ x, wipe ((wipe σ vs).set j (some x)) vs = wipe σ vs)
    (he : ∀ od (s : Str) H1, Evl.Ex (upd H d (.frz od (.dK kvs))) H1 → s ∈ ks → Evl.Ev te ((wipe σ vs).set j (some (.str s))) H1 (g s)) : Evl.EvL (tLockE (tLc (iKeys tl) (gName j) tYes te vs)) σ H (ks.map g) := fun H0 e Q q => by
  have hd0 := e _ _ hd
  refine ⟨d, .dK kvs, hd0, trivial, fun od => ?_⟩
  refine h od _ (Ex.locked e) _ fun H1 e1 => ⟨d, od, rfl, .inl ⟨kvs, e1 _ _ upd_same, fun Dl hD => ?_⟩⟩
  have hkl := hk.len
  have hat : ∀ i, i < ks.length → ∃ s, ks[i]? = some s ∧ s ∈ ks ∧ ∃ v, kvs[i]? = some (.inr s, v) := fun i hi => by
    have h1 : ks[i]? = some ks[i] := List.getElem?_eq_getElem hi
    have h2 : kvs[i]? = some kvs[i] := List.getElem?_eq_getElem (by omega)
    have h3 : (kvs.map (·.1))[i]? = (ks.map Sum.inr)[i]? := by rw [show kvs.map (·.1) = ks.map Sum.inr from hk]
    rw [List.getElem?_map, List.getElem?_map, h1, h2] at h3
    have h4 : kvs[i].1 = Sum.inr ks[i] := Option.some.inj h3
    exact ⟨_, h1, List.getElem_mem _, kvs[i].2, by rw [h2, ← h4]⟩
  refine cw_it (σ := σ) (n := kvs.length) (walk_keys (kvs := kvs) (d := d) (o := od)) (fun i => (ks[i]?.map fun _ => true).getD false) (fun i => (ks[i]?.map g).getD .non) (fun i => (ks[i]?.map V.str).getD .non) hD (by omega) (fun H2 e2 => (e1.trans e2) _ _ upd_same) (fun i H2 x H3 _ hi y => ?_) hw (fun i hi => ?_) (fun i hi hf => ?_) (fun H2 k => ?_)
  · obtain ⟨rfl, k, v, h2, rfl⟩ := y
    obtain ⟨s, h1, _, v', h3⟩ := hat i (by omega)
    rw [h3] at h2
    have := (Prod.mk.inj (Option.some.inj h2)).1
    subst this
    rw [h1]
    exact ⟨rfl, rfl⟩
  · obtain ⟨s, h1, hm, _⟩ := hat i (by omega)
    rw [h1]
    exact et_yes
  · obtain ⟨s, h1, hm, _⟩ := hat i (by omega)
    rw [h1]
    exact he od s H1 ((Ex.locked e).trans e1) hm
  · have gl := given_list (fun _ : Str => true) g ks
    have hne : Dl ≠ d := fun z => by
      rw [z, e1 _ _ upd_same] at hD
      cases hD
    refine ⟨k.2.1 _ _ (e1 _ _ upd_same), q Dl _ ?_ (Ex.lock hd0 (e1.trans k.2.1)) ?_⟩
    · have := Evl.fresh_back e1 hD
      rw [upd_ne hne] at this
      exact this
    · rw [upd_ne hne]
      rw [List.filter_eq_self.mpr fun _ _ => rfl] at gl
      rw [← gl, ← hkl]
      exact k.2.2
end
end Lw

namespace Lw
open PySem PySem.Spec PyProof.Rows L2
def topS (i : Nat) : Stmt := PySem.Challenge.pw_bundlekinds_k31_prices_compared.main.body.getD i (.Pass ⟨0, 0, 0, 0⟩)
abbrev s_law_draw : Stmt := topS 25
abbrev n_law_draw : List Str := ["_law_state", "_law_size", "_law_digit", "_law_cell", "_law_one"]
theorem sc_law_draw : FnScope n_law_draw ["_law_state", "_law_size"] (defScope s_law_draw) := ⟨rfl, rfl, rfl, by decide +kernel, rfl, by decide +kernel, by decide +kernel⟩
section
variable {P : Program} {w : World} {K : PySem.W.Frag} {mg : Str → Option Value} {base : Heap}
theorem ok_drawW {f : Addr} {fd : FuncData} {k : Nat} (F : Fun K "_law_draw" "_law_draw" s_law_draw f fd) (m_int : mg "int" = none) (m_len : mg "len" = none) : FnOk P w K mg base CX0 (k + 1) f fd ["_law_state", "_law_size"] sp_drawW := by
  refine F.ok sc_law_draw (fun vs H Q E h => ?_) (fun cdv A outer s H vs Q E hr h => ?_)
  · obtain ⟨st, size, n, rfl, _⟩ := h
    rfl
  · obtain ⟨st, size, n, rfl, ⟨q, r, bs, cs, c, D, hb, hcs, hc0, hcn⟩, hn, hs0, hs1, hQ⟩ := h
    refine ⟨_, (pss_cons (ps_augS (pv 0) pe_int pget_list pe_int ip_add set_list)
  (Evl.pss_cut (ps_while PassesOwn.never (PW.pt (pw_and (pt_cmpR (op_neD hr.units) (pe_ix ix_list (pv 0) pe_int (fun _ _ => rfl)) (pe_lst pa_nil) (nomark _)) (pw_and1 (pt_cmpR op_eq (pe_ix ix_list (pe_ix ix_list (pv 0) pe_int (fun _ _ => rfl)) pe_int (fun _ _ => rfl)) pe_int (nomark _)))))
   (pss_one (ps_asg (pe_slice sl_list (pe_ix ix_list (pv 0) pe_int (fun _ _ => rfl)) (po_some pe_int) po_none) (pg_sub (pv 0) pe_int set_list))))
  (pss_cons (ps_if (pt_cmpR (op_neD hr.units) (pe_ix ix_list (pv 0) pe_int (fun _ _ => rfl)) (pe_lst pa_nil) (nomark _))
   (pss_cons (ps_set (i := 2) sc_law_draw.nd rfl (by first | exact .inl rfl | exact .inr rfl) (pe_op op_mod (pe_callTy call_int1 (by rfl) m_int (by decide +kernel) (pa_cons (pe_ix ix_list (pe_ix ix_list (pv 0) pe_int (fun _ _ => rfl)) pe_int (fun _ _ => rfl)) pa_nil)) (pv 1)))
  (pss_cons (ps_asg (pe_op op_fdivW (pe_ix ix_list (pe_ix ix_list (pv 0) pe_int (fun _ _ => rfl)) pe_int (fun _ _ => rfl)) (pv 1)) (pg_sub (pe_ix ix_list (pv 0) pe_int (fun _ _ => rfl)) pe_int set_list))
  (pss_one (ps_ret (pv 2)))))
   pss_nil)
  (pss_cons (ps_set (i := 3) sc_law_draw.nd rfl (by first | exact .inl rfl | exact .inr rfl) (pe_op op_mod (pe_callTy call_int1 (by rfl) m_int (by decide +kernel) (pa_cons (pe_ix ix_list (pe_ix ix_list (pv 0) pe_int (fun _ _ => rfl)) (pe_op op_mod (pe_callTy call_int1 (by rfl) m_int (by decide +kernel) (pa_cons (pe_ix ix_list (pv 0) pe_int (fun _ _ => rfl)) pa_nil)) (pe_callB call_len_seq (by rfl) m_len PySem.boot_len (pa_cons (pe_ix ix_list (pv 0) pe_int (fun _ _ => rfl)) pa_nil))) (fun _ _ => rfl)) pa_nil)) pe_int))
  (pss_cons (ps_set (i := 4) sc_law_draw.nd rfl (by first | exact .inl rfl | exact .inr rfl) (pe_op op_mod (pe_callTy call_int1 (by rfl) m_int (by decide +kernel) (pa_cons (pe_op op_pow (pe_op op_add (pe_op op_add (pe_op op_mul (pv 3) pe_int) (pe_op op_mul (pe_ix ix_list (pv 0) pe_int (fun _ _ => rfl)) pe_int)) pe_int) pe_int) pa_nil)) pe_int))
  (pss_one (ps_ret (pe_op op_mod (pe_op op_mod (pe_callTy call_int1 (by rfl) m_int (by decide +kernel) (pa_cons (pe_op op_pow (pe_op op_add (pe_op op_add (pe_op op_mul (pv 4) pe_int) (pe_op op_mul (pe_ix ix_list (pv 0) pe_int (fun _ _ => rfl)) pe_int)) pe_int) pe_int) pa_nil)) pe_int) (pv 1))))))))), ?_⟩
    refine ⟨.ref st, rfl, st, _, 2, .int c, rfl, rfl, .inl (.inl D.st'), rfl, c, 1, rfl, rfl, st, _, 2, 2, rfl, rfl, D.st', rfl, ?_⟩
    refine ⟨fun σ' H' => ∃ q' bs', σ' = L2.start n_law_draw [.ref st, .int size] ∧ DX H' st q' r bs' cs (c + 1) ∧ (∀ b ∈ bs', 0 ≤ b) ∧ Kp st H H', ?_, ?_⟩
    · refine ⟨fun m σ' H' => ∃ q' bs', m = bs'.length ∧ σ' = L2.start n_law_draw [.ref st, .int size] ∧ DX H' st q' r bs' cs (c + 1) ∧ (∀ b ∈ bs', 0 ≤ b) ∧ Kp st H H', ⟨bs.length, q, bs, rfl, rfl, D.count, hb, D.countK⟩, ?_⟩
      rintro m σ' H' ⟨q', bs', rfl, rfl, D', hb', kp⟩
      refine ⟨.ref st, rfl, st, _, 0, .ref q', rfl, rfl, .inl (.inl D'.st'), rfl, Nat.zero_le _, fun p np => ?_⟩
      have D2 : DX (upd H' p (.lst [])) st q' r bs' cs (c + 1) := D'.new np
      have kp2 : Kp st H (upd H' p (.lst [])) := kp.trans (D'.newK np)
      refine ⟨_, _, dp_ints (.inl (.inl D2.q')), dp_empty (.inl (.inl upd_same)), sh_ints _, sh_empty, _, rfl, ?_⟩
      rw [eqv_nil_map]
      cases bs' with
      | nil => exact ⟨q', [], rfl, D2, hb', kp2⟩
      | cons b bs'' =>
        refine ⟨.ref st, rfl, st, _, 0, .ref q', rfl, rfl, .inl (.inl D2.st'), rfl, q', _, 0, .int b, rfl, rfl, .inl (.inl D2.q'), atI_nat (j := 0) rfl, rfl, _, rfl, ite2 (fun hz => ?_) (fun _ => ⟨q', b :: bs'', rfl, D2, hb', kp2⟩)⟩
        refine ⟨_, fun σ2 H2 h => ⟨bs''.length, Nat.lt_succ_self _, h⟩, ?_⟩
        refine ⟨.ref st, rfl, st, _, 0, .ref q', rfl, rfl, .inl (.inl D2.st'), rfl, 1, rfl, q', _, rfl, .inl (.inl D2.q'), fun t nt => ?_⟩
        have ec : cutV ((b :: bs'').map V.int) (some 1) none = bs''.map V.int := by
          unfold cutV
          rw [show HT.sIx ((b :: bs'').map V.int).length 0 (some 1) = 1 from by
            rw [show (1 : Int) = ((1 : Nat) : Int) from rfl, HT.sIx_nat, List.length_map, List.length_cons]
            omega, HT.sIx_none]
          show List.take (((b :: bs'').map V.int).length - 1) (bs''.map V.int) = _
          exact List.take_of_length_le (by simp)
        rw [ec]
        have D3 := D2.new (o := .lst (bs''.map V.int)) nt
        refine ⟨.ref st, rfl, st, _, 0, 0, rfl, rfl, D3.st', rfl, ?_⟩
        exact ⟨t, bs'', rfl, rfl, D2.swap nt, fun x hx => hb' x (List.mem_cons_of_mem _ hx), kp2.trans (D2.swapK nt)⟩
    · rintro σ' H' ⟨q', bs', rfl, D', hb', kp⟩
      refine ⟨.ref st, rfl, st, _, 0, .ref q', rfl, rfl, .inl (.inl D'.st'), rfl, Nat.zero_le _, fun p np => ?_⟩
      have D2 : DX (upd H' p (.lst [])) st q' r bs' cs (c + 1) := D'.new np
      have kp2 : Kp st H (upd H' p (.lst [])) := kp.trans (D'.newK np)
      refine ⟨_, _, dp_ints (.inl (.inl D2.q')), dp_empty (.inl (.inl upd_same)), sh_ints _, sh_empty, _, rfl, ?_⟩
      rw [eqv_nil_map]
      cases bs' with
      | cons b bs'' =>
        refine ⟨.ref st, rfl, st, _, 0, .ref q', rfl, rfl, .inl (.inl D2.st'), rfl, q', _, 0, .int b, rfl, rfl, .inl (.inl D2.q'), atI_nat (j := 0) rfl, .inl ⟨b, rfl, ?_⟩⟩
        refine ⟨.int size, rfl, b, size, rfl, rfl, hs0, ?_⟩
        refine ⟨.ref st, rfl, st, _, 0, .ref q', rfl, rfl, .inl (.inl D2.st'), rfl, q', _, 0, .int b, rfl, rfl, .inl (.inl D2.q'), atI_nat (j := 0) rfl, .int size, rfl, b, size, rfl, rfl, wide20 hs0 hs1, ?_⟩
        refine ⟨.ref st, rfl, st, _, 0, .ref q', rfl, rfl, .inl (.inl D2.st'), rfl, q', _, 0, 0, rfl, rfl, D2.q', Evl.ixN_nat (j := 0) (by simp), ?_⟩
        refine ⟨.int (b % size), rfl, hQ (b % size) _ (Int.emod_nonneg _ (by omega)) (Int.emod_lt_of_pos _ hs0) ⟨q', r, (b / size) :: bs'', cs, c + 1, D2.own (ds := (b / size) :: bs''), ?_, hcs, by omega, by omega⟩ (kp2.trans (D2.ownK (ds := (b / size) :: bs'')))⟩
        intro x hx
        rcases List.mem_cons.mp hx with rfl | hx
        · exact Int.ediv_nonneg (hb' b List.mem_cons_self) (by omega)
        · exact hb' x (List.mem_cons_of_mem _ hx)
      | nil =>
        have hl : 0 < cs.length := List.length_pos_iff.mpr hcs
        have hi0 : 0 ≤ (c + 1) % (cs.length : Int) := Int.emod_nonneg _ (by omega)
        have hi1 : (c + 1) % (cs.length : Int) < cs.length := Int.emod_lt_of_pos _ (by omega)
        obtain ⟨j, hj⟩ : ∃ j : Nat, (c + 1) % (cs.length : Int) = (j : Int) := ⟨((c + 1) % (cs.length : Int)).toNat, by omega⟩
        have hjl : j < cs.length := by omega
        have hat : atI (cs.map V.int) ((c + 1) % ((cs.map V.int).length : Int)) = some (.int cs[j]) := by
          rw [List.length_map, hj]
          exact atI_nat (by rw [List.getElem?_map, List.getElem?_eq_getElem hjl]; rfl)
        refine ⟨.ref st, rfl, st, _, 1, .ref r, rfl, rfl, .inl (.inl D2.st'), rfl, .ref st, rfl, st, _, 2, .int (c + 1), rfl, rfl, .inl (.inl D2.st'), rfl, .inl ⟨c + 1, rfl, ?_⟩⟩
        refine ⟨.ref st, rfl, st, _, 1, .ref r, rfl, rfl, .inl (.inl D2.st'), rfl, r, _, rfl, .inl (.inl (.inl D2.r')), c + 1, _, rfl, rfl, ?_, ?_⟩
        · show (0 : Int) < ((cs.map V.int).length : Int)
          rw [List.length_map]
          omega
        refine ⟨r, _, _, .int cs[j], rfl, rfl, .inl (.inl D2.r'), hat, .inl ⟨cs[j], rfl, cs[j], 2147483647, rfl, rfl, (by omega : (0 : Int) < 2147483647), ?_⟩⟩
        have hm0 : 0 ≤ cs[j] % 2147483647 := Int.emod_nonneg _ (by omega)
        have hm1 : cs[j] % 2147483647 < 2147483647 := Int.emod_lt_of_pos _ (by omega)
        dsimp only
        generalize cs[j] % 2147483647 = m at hm0 hm1
        have hw1 : -(2 ^ 64 : Int) < 48271 ∧ (48271 : Int) < 2 ^ 64 := by decide
        have hw2 : -(2 ^ 64 : Int) < 69621 ∧ (69621 : Int) < 2 ^ 64 := by decide
        have hw3 : -(2 ^ 64 : Int) < 16807 ∧ (16807 : Int) < 2 ^ 64 := by decide
        have hw4 : -(2 ^ 64 : Int) < 40692 ∧ (40692 : Int) < 2 ^ 64 := by decide
        refine ⟨.int m, rfl, m, 48271, rfl, rfl, .inr hw1, ?_⟩
        refine ⟨.ref st, rfl, st, _, 2, .int (c + 1), rfl, rfl, .inl (.inl D2.st'), rfl, c + 1, 69621, rfl, rfl, .inr hw2, m * 48271, (c + 1) * 69621, rfl, rfl, m * 48271 + (c + 1) * 69621, 7, rfl, rfl, ?_⟩
        refine ⟨m * 48271 + (c + 1) * 69621 + 7, 5, rfl, rfl, ⟨by omega, by omega, ?_⟩, .inl ⟨_, rfl, _, 2147483647, rfl, rfl, (by omega : (0 : Int) < 2147483647), ?_⟩⟩
        · have : (2 : Nat) ^ 64 = 18446744073709551616 := by decide
          omega
        have hk0 : 0 ≤ (m * 48271 + (c + 1) * 69621 + 7) ^ (5 : Int).toNat % 2147483647 := Int.emod_nonneg _ (by omega)
        have hk1 : (m * 48271 + (c + 1) * 69621 + 7) ^ (5 : Int).toNat % 2147483647 < 2147483647 := Int.emod_lt_of_pos _ (by omega)
        dsimp only
        generalize (m * 48271 + (c + 1) * 69621 + 7) ^ (5 : Int).toNat % 2147483647 = k at hk0 hk1
        refine ⟨.int k, rfl, k, 16807, rfl, rfl, .inr hw3, ?_⟩
        refine ⟨.ref st, rfl, st, _, 2, .int (c + 1), rfl, rfl, .inl (.inl D2.st'), rfl, c + 1, 40692, rfl, rfl, .inr hw4, k * 16807, (c + 1) * 40692, rfl, rfl, k * 16807 + (c + 1) * 40692, 13, rfl, rfl, ?_⟩
        refine ⟨k * 16807 + (c + 1) * 40692 + 13, 5, rfl, rfl, ⟨by omega, by omega, ?_⟩, .inl ⟨_, rfl, _, 2147483629, rfl, rfl, (by omega : (0 : Int) < 2147483629), .int size, rfl, _, size, rfl, rfl, hs0, ?_⟩⟩
        · have : (2 : Nat) ^ 64 = 18446744073709551616 := by decide
          omega
        exact hQ _ _ (Int.emod_nonneg _ (by omega)) (Int.emod_lt_of_pos _ hs0) ⟨q', r, [], cs, c + 1, D2, hb', hcs, by omega, by omega⟩ kp2
theorem ok_draw {f : Addr} {fd : FuncData} {k : Nat} (F : Fun K "_law_draw" "_law_draw" s_law_draw f fd) (m_int : mg "int" = none) (m_len : mg "len" = none) : FnOk P w K mg base CX0 (k + 1) f fd ["_law_state", "_law_size"] sp_draw := (ok_drawW F m_int m_len).imp fun _ _ _ _ h => sp_draw_W h
end
end Lw

namespace Lw
open PySem PySem.Spec PyProof.Rows L2
abbrev s_law_start : Stmt := topS 24
abbrev n_law_start : List Str := ["_law_script", "_law_cell"]
theorem sc_law_start : FnScope n_law_start ["_law_script"] (defScope s_law_start) := ⟨rfl, rfl, rfl, by decide +kernel, rfl, by decide +kernel, by decide +kernel⟩
section
variable {P : Program} {w : World} {K : PySem.W.Frag} {mg : Str → Option Value} {base : Heap}
theorem ok_start {f : Addr} {fd : FuncData} {k : Nat} (F : Fun K "_law_start" "_law_start" s_law_start f fd) (m_abs : mg "abs" = none) (m_list : mg "list" = none) : FnOk P w K mg base CX0 (k + 1) f fd ["_law_script"] (sp_start K) := by
  refine F.ok sc_law_start (fun vs H Q E h => ?_) (fun cdv A outer s H vs Q E hr h => ?_)
  · obtain ⟨a, ns, rfl, _⟩ := h
    rfl
  · obtain ⟨a, ns, rfl, hS, hlen, hQ⟩ := h
    refine ⟨_, (pss_one (ps_ret (pe_lst (pa_cons (pe_lc (own := [("_law_cell", 1)]) (g := gName 1) (by rfl) sc_law_start.nd (pi_list (pv 0)) (blkOk_by (own := [("_law_cell", 1)]) (N := n_law_start) (sc := defScope s_law_start) (by decide +kernel)) (fun _ _ _ _ _ => pg_name (i := 1) sc_law_start.nd rfl (by first | exact .inl rfl | exact .inr rfl)) (fun _ _ _ _ _ => (pts_one (pt_cmpR op_ge (pe_callB call_abs (by rfl) m_abs (by decide +kernel) (pa_cons (pv 1) pa_nil)) (pe_op op_pow pe_int pe_int) (nomark _)))) (fun _ _ _ _ _ => (pe_callB call_abs (by rfl) m_abs (by decide +kernel) (pa_cons (pv 1) pa_nil)))) (pa_cons (pe_op op_cat (pe_callTy call_list_of (by rfl) m_list (by decide +kernel) (pa_cons (pv 0) pa_nil)) (pe_lst (pa_cons pe_int pa_nil))) (pa_cons pe_int pa_nil)))))), ?_⟩
    refine ⟨.ref a, rfl, a, rfl, ⟨_, hS⟩, fun D nD => ?_⟩
    refine lc_list (xs := ns.map V.int) (fun i H' => Same H H' ∧ ∃ bs : List Int, H' D = some (.lst (bs.map V.int)) ∧ (∀ b ∈ bs, 0 ≤ b) ∧ bs.length ≤ i) ⟨Evl.Ex.new nD, [], upd_same, (fun _ h => by simp at h), Nat.le_refl _⟩ (fun i H' _ p => p.1.seq hS) (fun i x H' hx p => ?_) (fun H1 p => ?_)
    · rw [List.getElem?_map] at hx
      cases hz : ns[i]? with
      | none =>
        rw [hz] at hx
        cases hx
      | some z =>
        rw [hz] at hx
        cases hx
        have hi : i < ns.length := (List.getElem?_eq_some_iff.mp hz).1
        obtain ⟨sm, bs, eD, hb, hl⟩ := p
        refine ⟨rfl, .int z, rfl, z, rfl, 10, 18, rfl, rfl, ⟨by decide, by decide, by decide⟩, _, _, rfl, rfl, _, rfl, ite2 (fun _ => ?_) (fun _ => ⟨sm, bs, eD, hb, by omega⟩)⟩
        refine ⟨.int z, rfl, z, rfl, _, eD, ?_, fun b o e => ?_, bs ++ [if z < 0 then -z else z], ?_, ?_, ?_⟩
        · rw [List.length_map]
          exact small1000 (by omega)
        · rw [upd_ne (ne_of_none e nD)]
          exact sm b o e
        · rw [upd_same, List.map_append]
          rfl
        · intro b h
          rcases List.mem_append.mp h with h | h
          · exact hb b h
          · rw [List.mem_singleton.mp h]
            split <;> omega
        · rw [List.length_append]
          show bs.length + 1 ≤ i + 1
          omega
    · obtain ⟨sm, bs, eD, hb, hl⟩ := p
      refine ⟨.ref a, rfl, a, _, rfl, .inl (sm.seq hS), fun l nl => ⟨by show (1 : Nat) ≤ sizeLine; decide, fun e ne => ?_⟩⟩
      have elD := ne_of_none eD nl
      have h1 : (upd H1 l (.lst (ns.map V.int))) D = some (.lst (bs.map V.int)) := (upd_ne elD).trans eD
      have nel : l ≠ e := ne_of_none upd_same ne
      have neD := ne_of_none h1 ne
      refine ⟨l, e, _, _, rfl, rfl, (upd_ne nel).trans upd_same, upd_same, ?_, fun r nr => ⟨by show (3 : Nat) ≤ sizeLine; decide, fun st nst => ?_⟩⟩
      · show (ns.map V.int).length + 1 ≤ sizeLine
        rw [List.length_map]
        exact Nat.le_of_lt (small1000 (by omega))
      · have h2 : (upd (upd H1 l (.lst (ns.map V.int))) e (.lst [V.int 5])) D = some (.lst (bs.map V.int)) := (upd_ne neD).trans h1
        have h3 := ne_of_none h2 nr
        have h4 := (upd_ne (o := .lst (ns.map V.int ++ [V.int 5])) h3).trans h2
        have h5 := ne_of_none h4 nst
        have h6 : (upd (upd (upd H1 l (.lst (ns.map V.int))) e (.lst [V.int 5])) r (.lst (ns.map V.int ++ [V.int 5]))) r = some (.lst (ns.map V.int ++ [V.int 5])) := upd_same
        have h7 := ne_of_none h6 nst
        have dx : DX (upd (upd (upd (upd H1 l (.lst (ns.map V.int))) e (.lst [V.int 5])) r (.lst (ns.map V.int ++ [V.int 5]))) st (.lst [.ref D, .ref r, .int 0])) st D r bs (ns ++ [5]) 0 := ⟨upd_same, (upd_ne h5).trans h4, by rw [upd_ne h7, upd_same, List.map_append]; rfl, h3, h5, h7⟩
        refine hQ st _ ⟨D, r, bs, ns ++ [5], 0, dx, hb, by simp, by omega, by omega⟩ fun b o eb => ?_
        have b1 := sm b o eb
        have b2 := (upd_ne (o := .lst (ns.map V.int)) (ne_of_none b1 nl)).trans b1
        have b3 := (upd_ne (o := .lst [V.int 5]) (ne_of_none b2 ne)).trans b2
        have b4 := (upd_ne (o := .lst (ns.map V.int ++ [V.int 5])) (ne_of_none b3 nr)).trans b3
        have b5 := ne_of_none b4 nst
        exact (ap_iff dx).mpr ⟨(upd_ne b5).trans b4, b5, ne_of_none eb nD, ne_of_none b3 nr⟩
end
end Lw

namespace Lw
open PySem PySem.Spec PyProof.Rows L2
abbrev s_valid_name : Stmt := topS 14
abbrev n_valid_name : List Str := ["text", "sign"]
theorem sc_valid_name : FnScope n_valid_name ["text"] (defScope s_valid_name) := ⟨rfl, rfl, rfl, by decide +kernel, rfl, by decide +kernel, by decide +kernel⟩
section
variable {P : Program} {w : World} {K : PySem.W.Frag} {mg : Str → Option Value} {base : Heap}
theorem ok_vn {f : Addr} {fd : FuncData} {k : Nat} (F : Fun K "valid_name" "valid_name" s_valid_name f fd) (m_len : mg "len" = none) (m_all : mg "all" = none)
    (m_LETTERS : ∃ u, mg "LETTERS" = some u ∧ RelV (.str LET) u) (m_DIGITS : ∃ u, mg "DIGITS" = some u ∧ RelV (.str DIG) u) (m_MOST_SIGNS : ∃ u, mg "MOST_SIGNS" = some u ∧ RelV (.int 6) u) : FnOk P w K mg base CX0 (k + 1) f fd ["text"] sp_vn := by
  refine F.ok sc_valid_name (fun vs H Q E h => ?_) (fun cdv A outer s H vs Q E hr h => ?_)
  · obtain ⟨z, rfl, _⟩ := h
    rfl
  · obtain ⟨z, rfl, hz, hok, hQ⟩ := h
    have hzl : z.length ≤ sizeLine := Nat.le_of_lt (small1000 hz)
    refine ⟨_, (pss_cons (ps_if (pt_not (pt_chain op_le op_le pe_int (pe_callB call_len_str (by rfl) m_len PySem.boot_len (pa_cons (pv 0) pa_nil)) (pe_gv (by rfl) m_MOST_SIGNS)))
   (pss_one (ps_ret pe_bl))
   pss_nil)
  (pss_cons (ps_if (pt_cmpR op_notIn_sign (pe_ix ix_str (pv 0) pe_int (fun _ _ => rfl)) (pe_gv (by rfl) m_LETTERS) rfl)
   (pss_one (ps_ret pe_bl))
   pss_nil)
  (pss_one (ps_ret (pe_callB (cr_all rfl) (by rfl) m_all (by decide +kernel) (pa_cons (pe_lc (own := [("sign", 1)]) (g := gName 1) (by rfl) sc_valid_name.nd (pi_str (pv 0)) (blkOk_by (own := [("sign", 1)]) (N := n_valid_name) (sc := defScope s_valid_name) (by decide +kernel)) (fun _ _ _ _ _ => pg_name (i := 1) sc_valid_name.nd rfl (by first | exact .inl rfl | exact .inr rfl)) (fun _ _ _ _ _ => pts_nil) (fun _ _ _ _ _ => (pe_or (pe_cmpR op_in_sign (pv 1) (pe_gv (by rfl) m_LETTERS) rfl) (pe_one (pe_cmpR op_in_sign (pv 1) (pe_gv (by rfl) m_DIGITS) rfl))))) pa_nil)))))), ?_⟩
    refine Evl.q_when (b := !(decide ((1 : Int) ≤ (z.length : Int)) && decide ((z.length : Int) ≤ 6))) (Evl.et_not (Evl.et_test (ev_chain Evl.ev_c (Evl.ev_cb (Evl.ea_cons (Evl.ev_var rfl) Evl.ea_nil) (rc_lenStr hzl)) Evl.rv_I0 (fun _ => Evl.ev_c) (fun _ => Evl.rv_I0)))) (fun hb H1 e1 => Evl.s_ret Evl.ev_c fun H2 e2 => ?_) (fun hb H1 e1 => ?_)
    · have e : vn z = false := by
        unfold vn
        rw [len_tl] at hb
        cases hc : z.cps.toList with
        | nil => rfl
        | cons c r =>
          rw [hc] at hb
          have h7 : ¬ ((c :: r).length ≤ 6) := by
            intro h
            rw [decide_eq_true (by simp only [List.length_cons]; omega : (1 : Int) ≤ ((c :: r).length : Int)), decide_eq_true (by omega : ((c :: r).length : Int) ≤ 6)] at hb
            cases hb
          rw [vnL_cons, decide_eq_false h7]
          rfl
      rw [← e]
      exact hQ H2 (e1.trans e2)
    · obtain ⟨c, r, hc⟩ : ∃ c r, z.cps.toList = c :: r := by
        cases hc : z.cps.toList with
        | nil =>
          rw [len_tl, hc] at hb
          cases hb
        | cons c r => exact ⟨c, r, rfl⟩
      have h6 : z.cps.toList.length ≤ 6 := by
        rw [len_tl] at hb
        by_cases h : (z.cps.toList.length : Int) ≤ 6
        · omega
        · rw [decide_eq_false h] at hb
          simp at hb
      have hvn : vn z = (isL c && z.cps.toList.all fun d => isL d || isD d) := by
        unfold vn
        rw [hc]
        rw [vnL_cons, decide_eq_true (hc ▸ h6)]
        rfl
      refine Evl.q_when (b := !isL c) (Evl.et_test (Evl.ev_op (Evl.ev_op (Evl.ev_var rfl) Evl.ev_c (Evl.rv_ixS (c := c) (by omega) (atI_nat (j := 0) (by rw [hc]; rfl)))) Evl.ev_c rv_nsign)) (fun hb H2 e2 => Evl.s_ret Evl.ev_c fun H3 e3 => ?_) (fun hb H2 e2 => ?_)
      · have e : vn z = false := by
          rw [hvn]
          have : isL c = false := by simpa using hb
          rw [this]
          rfl
        rw [← e]
        exact hQ H3 ((e1.trans e2).trans e3)
      · have hL : isL c = true := by simpa using hb
        refine Evl.s_ret (v := .bl (vn z)) (Evl.ev_is (ev_cbL (el_lcS (p := fun _ => true) (g := fun d => .bl (isL d || isD d)) (Evl.ev_var rfl) (by omega) (fun _ => rfl) (fun _ _ _ _ => et_yes) (fun d H3 _ _ _ => Evl.ev_orV (Evl.ev_op (Evl.ev_var rfl) Evl.ev_c rv_sign) (fun _ => Evl.ev_op (Evl.ev_var rfl) Evl.ev_c rv_sign))) (fun p H3 hp _ => rc_all (bs := z.cps.toList.map fun d => isL d || isD d) (.inl (.inl ?_)))) ?_) (fun H3 e3 => hQ H3 ((e1.trans e2).trans e3))
        · rw [hp, List.filter_eq_self.mpr fun _ _ => rfl, List.map_map]
          rfl
        · rw [hvn, hL, List.all_map]
          rfl
end
end Lw

namespace Lw
open PySem PySem.Spec PyProof.Rows L2
abbrev s_law_names : Stmt := topS 26
abbrev n_law_names : List Str := ["_law_state", "_law_count", "_law_signs", "_law_stem", "_law_k", "_law_letter", "_law_offset", "_law_stride", "_law_plan", "_law_step", "_law_whole", "_law_words", "_law_sign", "_law_back"]
theorem sc_law_names : FnScope n_law_names ["_law_state", "_law_count"] (defScope s_law_names) := ⟨rfl, rfl, rfl, by decide +kernel, rfl, by decide +kernel, by decide +kernel⟩
section
variable {P : Program} {w : World} {K : PySem.W.Frag} {mg : Str → Option Value} {base : Heap}
theorem ok_names {f f2 : Addr} {fd fd2 : FuncData} (F : Fun K "_law_names" "_law_names" s_law_names f fd)
    (F_law_draw : Fun K "_law_draw" "_law_draw" s_law_draw f2 fd2) (b_law_draw : Binds K fd2 ["_law_state", "_law_size"] []) (g_law_draw : mg "_law_draw" = some (.ref f2)) (G_law_draw : FnOk P w K mg base CX0 1 f2 fd2 ["_law_state", "_law_size"] sp_draw)
    (m_range : mg "range" = none) (m_str : mg "str" = none) (m_int : mg "int" = none) : FnOk P w K mg base CX0 2 f fd ["_law_state", "_law_count"] sp_names := by
  refine F.ok sc_law_names (fun vs H Q E h => ?_) (fun cdv A outer s H vs Q E hr h => ?_)
  · obtain ⟨st, count, n, rfl, _⟩ := h
    rfl
  · obtain ⟨st, count, n, rfl, D, hn, hc0, hc1, hQ⟩ := h
    refine ⟨_, (pss_cons (ps_set (i := 2) sc_law_names.nd rfl (by first | exact .inl rfl | exact .inr rfl) pe_str)
  (pss_cons (ps_set (i := 3) sc_law_names.nd rfl (by first | exact .inl rfl | exact .inr rfl) (pe_join pe_str (pe_lc (own := [("_law_k", 4)]) (g := gName 4) (by rfl) sc_law_names.nd (pi_range1 (by rfl) m_range (pa_cons (pe_call G_law_draw (hr.mono (by decide)) (by rfl) g_law_draw F_law_draw.kp b_law_draw .nil pass0 (pa_cons (pv 0) (pa_cons pe_int pa_nil))) pa_nil)) (blkOk_by (own := [("_law_k", 4)]) (N := n_law_names) (sc := defScope s_law_names) (by decide +kernel)) (fun _ _ _ _ _ => pg_name (i := 4) sc_law_names.nd rfl (by first | exact .inl rfl | exact .inr rfl)) (fun _ _ _ _ _ => pts_nil) (fun _ _ _ _ _ => (pe_ix ix_str (pv 2) (pe_call G_law_draw (hr.mono (by decide)) (by rfl) g_law_draw F_law_draw.kp b_law_draw .nil pass0 (pa_cons (pv 0) (pa_cons pe_int pa_nil))) (fun _ _ => rfl))))))
  (pss_cons (ps_set (i := 5) sc_law_names.nd rfl (by first | exact .inl rfl | exact .inr rfl) (pe_ix ix_str (pv 2) (pe_call G_law_draw (hr.mono (by decide)) (by rfl) g_law_draw F_law_draw.kp b_law_draw .nil pass0 (pa_cons (pv 0) (pa_cons pe_int pa_nil))) (fun _ _ => rfl)))
  (pss_cons (ps_set (i := 6) sc_law_names.nd rfl (by first | exact .inl rfl | exact .inr rfl) (pe_call G_law_draw (hr.mono (by decide)) (by rfl) g_law_draw F_law_draw.kp b_law_draw .nil pass0 (pa_cons (pv 0) (pa_cons pe_int pa_nil))))
  (pss_cons (ps_set (i := 7) sc_law_names.nd rfl (by first | exact .inl rfl | exact .inr rfl) (pe_ix ix_list (pe_lst (pa_cons pe_int (pa_cons pe_int (pa_cons pe_int (pa_cons pe_int (pa_cons pe_int (pa_cons pe_int pa_nil))))))) (pe_call G_law_draw (hr.mono (by decide)) (by rfl) g_law_draw F_law_draw.kp b_law_draw .nil pass0 (pa_cons (pv 0) (pa_cons pe_int pa_nil))) (fun _ _ => rfl)))
  (pss_cons (ps_set (i := 8) sc_law_names.nd rfl (by first | exact .inl rfl | exact .inr rfl) (pe_call G_law_draw (hr.mono (by decide)) (by rfl) g_law_draw F_law_draw.kp b_law_draw .nil pass0 (pa_cons (pv 0) (pa_cons pe_int pa_nil))))
  (pss_cons (ps_if (PW.pt (pw_or (pt_cmpR op_eq (pv 8) pe_int (nomark _)) (pw_or1 (PW.pt (pw_and (pt_cmpR op_eq (pv 8) pe_int (nomark _)) (pw_and1 (pt_cmpR op_gt (pv 1) pe_int (nomark _))))))))
   (pss_cons (ps_set (i := 9) sc_law_names.nd rfl (by first | exact .inl rfl | exact .inr rfl) (pe_op op_add pe_int (pe_call G_law_draw (hr.mono (by decide)) (by rfl) g_law_draw F_law_draw.kp b_law_draw .nil pass0 (pa_cons (pv 0) (pa_cons pe_int pa_nil)))))
  (pss_one (ps_ret (pe_lc (own := [("_law_k", 4)]) (g := gName 4) (by rfl) sc_law_names.nd (pi_range1 (by rfl) m_range (pa_cons (pv 1) pa_nil)) (blkOk_by (own := [("_law_k", 4)]) (N := n_law_names) (sc := defScope s_law_names) (by decide +kernel)) (fun _ _ _ _ _ => pg_name (i := 4) sc_law_names.nd rfl (by first | exact .inl rfl | exact .inr rfl)) (fun _ _ _ _ _ => pts_nil) (fun _ _ _ _ _ => (pe_op op_add_str (pv 5) (pe_callTy call_str_int (by rfl) m_str (by decide +kernel) (pa_cons (pe_op op_mul (pv 9) (pe_op op_add (pv 4) pe_int)) pa_nil))))))))
   pss_nil)
  (pss_cons (ps_if (pt_cmpR op_eq (pv 8) pe_int (nomark _))
   (pss_cons (ps_set (i := 10) sc_law_names.nd rfl (by first | exact .inl rfl | exact .inr rfl) (pe_op op_add_str (pv 5) (pe_join pe_str (pe_lc (own := [("_law_k", 4)]) (g := gName 4) (by rfl) sc_law_names.nd (pi_range1 (by rfl) m_range (pa_cons pe_int pa_nil)) (blkOk_by (own := [("_law_k", 4)]) (N := n_law_names) (sc := defScope s_law_names) (by decide +kernel)) (fun _ _ _ _ _ => pg_name (i := 4) sc_law_names.nd rfl (by first | exact .inl rfl | exact .inr rfl)) (fun _ _ _ _ _ => pts_nil) (fun _ _ _ _ _ => (pe_ix ix_str (pv 2) (pe_call G_law_draw (hr.mono (by decide)) (by rfl) g_law_draw F_law_draw.kp b_law_draw .nil pass0 (pa_cons (pv 0) (pa_cons pe_int pa_nil))) (fun _ _ => rfl)))))))
  (pss_one (ps_ret (pe_lc (own := [("_law_k", 4)]) (g := gName 4) (by rfl) sc_law_names.nd (pi_range1 (by rfl) m_range (pa_cons (pv 1) pa_nil)) (blkOk_by (own := [("_law_k", 4)]) (N := n_law_names) (sc := defScope s_law_names) (by decide +kernel)) (fun _ _ _ _ _ => pg_name (i := 4) sc_law_names.nd rfl (by first | exact .inl rfl | exact .inr rfl)) (fun _ _ _ _ _ => pts_nil) (fun _ _ _ _ _ => (pe_slice sl_str (pv 10) po_none (po_some (pe_op op_add (pv 4) pe_int))))))))
   pss_nil)
  (pss_cons (ps_set (i := 11) sc_law_names.nd rfl (by first | exact .inl rfl | exact .inr rfl) (pe_lst pa_nil))
  (pss_cons (ps_for PassesOwn.never rfl  (pi_range1 (by rfl) m_range (pa_cons (pv 1) pa_nil)) (pg_name (i := 4) sc_law_names.nd rfl (by first | exact .inl rfl | exact .inr rfl))
   (pss_cons (ps_set (i := 12) sc_law_names.nd rfl (by first | exact .inl rfl | exact .inr rfl) (pe_ix ix_str (pv 2) (pe_op op_mod (pe_callTy call_int1 (by rfl) m_int (by decide +kernel) (pa_cons (pe_op op_add (pv 6) (pe_op op_mul (pv 7) (pv 4))) pa_nil)) pe_int) (fun _ _ => rfl)))
  (pss_cons (ps_set (i := 13) sc_law_names.nd rfl (by first | exact .inl rfl | exact .inr rfl) (pe_ix ix_list (pe_lst (pa_cons (pv 3) (pa_cons pe_str pa_nil))) (pe_callTy call_int1 (by rfl) m_int (by decide +kernel) (pa_cons (pe_and (pe_cmpR op_gt (pv 8) pe_int (nomark _)) (pe_one (pe_cmpR op_eq (pe_op op_mod (pv 4) pe_int) pe_int (nomark _)))) pa_nil)) (fun _ _ => rfl)))
  (pss_one (ps_expr (pe_bm PySem.F.plainAttrs_list PySem.F.slot_list_append PySem.F.type_list_append mt_append (pv 11) (pa_cons (pe_ix ix_list (pe_lst (pa_cons (pe_op op_add_str (pe_op op_add_str (pv 5) (pv 13)) (pv 12)) (pa_cons (pe_op op_add_str (pv 12) (pv 13)) pa_nil))) (pe_op op_mod (pe_callTy call_int1 (by rfl) m_int (by decide +kernel) (pa_cons (pv 8) pa_nil)) pe_int) (fun _ _ => rfl)) pa_nil)))))))
  (pss_one (ps_ret (pv 11))))))))))))), ?_⟩
    have s36 : SG36.length ≤ sizeLine := by decide +kernel
    have l36 := sg36_len
    have l36' : SG36.cps.toList.length = 36 := by rw [← len_tl]; exact l36
    -- the stem
    refine ⟨⟨_, rfl⟩, .ref st, rfl, st, 5, n, rfl, D, by omega, by omega, by omega, fun d1 H1 d10 d11 D1 k1 => ⟨d1, rfl, by omega, by omega, fun Dl nD => ?_⟩⟩
    refine lc_signs (z := SG36) (size := 36) (m := n + 1) (fun _ => rfl) (fun _ => rfl) (fun _ => rfl) (by omega) (by omega) (by omega) (by omega) (by omega) D1 nD (fun H2 zs D2 k2 ap2 hl2 hy2 => ?_)
    obtain ⟨sl, sn, ss⟩ := stem_ok hy2
    refine ⟨_, Dl, zs, rfl, rfl, .inl (.inl (.inl ap2.1)), ?_, ?_⟩
    · rw [ss]
      show zs.length + zs.length * 0 ≤ 16777216
      omega
    have sl4 : (Txt.join "" zs).cps.toList.length ≤ 4 := by omega
    have D2' := D2.mono (m := n + 5) (by omega)
    have k12 := k1.trans k2
    clear D2 ap2 sl ss hy2 k1 k2 D1 hl2 nD
    revert sn sl4
    generalize Txt.join "" zs = stem
    intro sn sl4
    -- letter, offset, stride, plan
    refine ⟨.str SG36, rfl, .ref st, rfl, st, 26, n + 5, rfl, D2', by omega, by omega, by omega, fun d3 H3 d30 d31 D3 k3 => ?_⟩
    obtain ⟨j3, rfl⟩ : ∃ j : Nat, d3 = (j : Int) := ⟨d3.toNat, by omega⟩
    have hj3 : j3 < SG36.cps.toList.length := by omega
    have hc3 := List.getElem?_eq_getElem hj3
    obtain ⟨lN, lL⟩ := sg36_at hc3
    have lL' := (lL (by omega)).2
    refine ⟨SG36, _, _, rfl, rfl, s36, atI_nat hc3, ?_⟩
    generalize SG36.cps.toList[j3] = letter at lN lL' 
    refine ⟨.ref st, rfl, st, 26, n + 6, rfl, D3, by omega, by omega, by omega, fun offset H4 o0 o1 D4 k4 => ?_⟩
    refine ⟨Nat.le_trans (by decide : 6 ≤ 1000) (by decide), fun p np => ?_⟩
    refine ⟨.ref st, rfl, st, 6, n + 7, rfl, D4.new np, by omega, by omega, by omega, fun d5 H5 d50 d51 D5 k5 => ?_⟩
    have ap5 := k5 _ _ (D4.fresh np)
    obtain ⟨v5, hv5, hm5⟩ := atI_some (xs := [V.int 1, V.int 3, V.int 5, V.int 7, V.int 9, V.int 11]) d50 d51
    obtain ⟨stride, rfl, hstr⟩ : ∃ s : Int, v5 = .int s ∧ (s = 1 ∨ s = 3 ∨ s = 5 ∨ s = 7 ∨ s = 9 ∨ s = 11) := by
      simp only [List.mem_cons, List.not_mem_nil, or_false] at hm5
      rcases hm5 with rfl | rfl | rfl | rfl | rfl | rfl <;> exact ⟨_, rfl, by omega⟩
    refine ⟨p, _, _, _, rfl, rfl, .inl (.inl ap5.1), hv5, ?_⟩
    refine ⟨.ref st, rfl, st, 6, n + 8, rfl, D5, by omega, by omega, by omega, fun plan H6 p0 p1 D6 k6 => ?_⟩
    have kp6 : Kp st H H6 := (k12.trans (k3.trans (k4.trans (Kp.trans (D4.newK np) k5)))).trans k6
    clear k12 k3 k4 k5 k6 ap5 hv5 hm5 np D2' D3 D4 D5
    -- a letter and a number
    refine Evl.q_when (b := decide (V.int plan = V.int 4) || (decide (V.int plan = V.int 5) && decide ((6 : Int) < count))) (Evl.et_or (Evl.et_test (Evl.ev_op (Evl.ev_var rfl) Evl.ev_c (Evl.rv_eq rfl))) fun _ => Evl.et_and (Evl.et_test (Evl.ev_op (Evl.ev_var rfl) Evl.ev_c (Evl.rv_eq rfl))) fun _ => Evl.et_test (Evl.ev_op (Evl.ev_var rfl) Evl.ev_c Evl.rv_I0)) (fun hb H7 e7 => ?_) (fun hb H7 e7 => ?_)
    · have D7 := D6.ex e7
      have kp7 := kp6.trans (D6.exK e7)
      refine ⟨.ref st, rfl, st, 9, n + 9, rfl, D7, by omega, by omega, by omega, fun d8 H8 d80 d81 D8 k8 => ⟨1, d8, rfl, rfl, ?_⟩⟩
      have kp8 := kp7.trans k8
      obtain ⟨step, hst⟩ : ∃ s : Nat, 1 + d8 = (s : Int) := ⟨(1 + d8).toNat, by omega⟩
      have hs1 : 1 ≤ step ∧ step ≤ 9 := by omega
      have hlt : ∀ k : Nat, k < 9 → step * (k + 1) < 100 := fun k hk => Nat.lt_of_le_of_lt (Nat.mul_le_mul hs1.2 (by omega : k + 1 ≤ 9)) (by decide)
      have key := row_names (n := count.toNat) (f := fun k => (⟨#[letter]⟩ : Str) ++ Str.ofString (toString ((step * (k + 1) : Nat) : Int))) (fun k hk => by
        have hh := num_codes (step * (k + 1)) (hlt k (by omega))
        refine vn_of (c := letter) (r := (Str.ofString (toString ((step * (k + 1) : Nat) : Int))).cps.toList) (by rw [app_codes]; rfl) (by omega) lL' fun d hd => ?_
        unfold isN
        rw [hh.1 d hd]
        exact Bool.or_true _) (fun i k hik hk e => by
        have e2 := congrArg (fun z : Str => z.cps.toList) e
        simp only [app_codes] at e2
        have e3 := num_inj _ _ (hlt i (by omega)) (hlt k (by omega)) (List.append_cancel_left e2)
        have := Nat.eq_of_mul_eq_mul_left (by omega) e3
        omega)
      refine Evl.s_retL (Evl.el_lcR1 (fun _ => true) (fun k => .str ((⟨#[letter]⟩ : Str) ++ Str.ofString (toString ((step * (k + 1) : Nat) : Int)))) (Evl.ea_cons (Evl.ev_var rfl) Evl.ea_nil) (by omega) (fun _ => rfl) (fun i H1 _ _ => et_yes) (fun i H1 _ hi _ => ?_)) (fun q H9 nq e9 hq => ?_)
      · have hi9 : i < 9 := by omega
        have e1 : (1 + d8) * ((i : Int) + 1) = ((step * (i + 1) : Nat) : Int) := by
          rw [hst]
          push_cast
          rfl
        have hh := hlt i hi9
        refine Evl.ev_op (Evl.ev_var rfl) (Evl.ev_cb (Evl.ea_cons (Evl.ev_is (Evl.ev_op (Evl.ev_var rfl) (Evl.ev_op (Evl.ev_var rfl) Evl.ev_c Evl.rv_I0) (Evl.rv_I (.inl ⟨by omega, by omega⟩))) (congrArg V.int e1)) Evl.ea_nil) (rc_strI ?_)) (rv_addS ?_)
        · rw [Int.natAbs_natCast]
          exact Nat.lt_of_le_of_lt (Nat.log2_le_self _) (by omega)
        · have := (num_codes _ hh).2
          rw [len_tl, len_tl]
          refine Nat.le_trans (Nat.add_le_add (Nat.le_refl 1) this) (by decide)
      · rw [given_all] at hq
        refine hQ q ((List.range count.toNat).map fun k => (⟨#[letter]⟩ : Str) ++ Str.ofString (toString ((step * (k + 1) : Nat) : Int))) H9 ((D8.ex e9).mono (by omega)) (kp8.trans (D8.exK e9)) (fun b o hb => ne_of_none (kp8 b o hb).1 nq) ?_ key.1 key.2.1 key.2.2
        have ee : ((List.range count.toNat).map fun k => (⟨#[letter]⟩ : Str) ++ Str.ofString (toString ((step * (k + 1) : Nat) : Int))).map V.str = (List.range count.toNat).map fun k => V.str ((⟨#[letter]⟩ : Str) ++ Str.ofString (toString ((step * (k + 1) : Nat) : Int))) := by
          rw [List.map_map]
          rfl
        rw [ee]
        exact D8.exNew e9 nq hq
    -- the parts of one word
    have D7 := D6.ex e7
    have kp7 := kp6.trans (D6.exK e7)
    refine Evl.q_when (b := decide (V.int plan = V.int 5)) (Evl.et_test (Evl.ev_op (Evl.ev_var rfl) Evl.ev_c (Evl.rv_eq rfl))) (fun hb2 H8 e8 => ?_) (fun hb2 H8 e8 => ?_)
    · have hcount : count ≤ 6 := by
        rw [hb2, Bool.true_and, Bool.or_eq_false_iff] at hb
        have := of_decide_eq_false hb.2
        omega
      have D8 := D7.ex e8
      have kp8 := kp7.trans (D7.exK e8)
      refine ⟨.str ⟨#[letter]⟩, rfl, ⟨_, rfl⟩, 5, rfl, by omega, by omega, fun Dl nD => ?_⟩
      refine lc_signs (z := SG36) (size := 36) (m := n + 9) (fun _ => rfl) (fun _ => rfl) (fun _ => rfl) (by omega) (by omega) (by omega) (by omega) (by omega) D8 nD (fun H9 zs D9 k9 ap9 hl9 hy9 => ?_)
      obtain ⟨sl9, sn9, ss9⟩ := stem_ok hy9
      refine ⟨_, Dl, zs, rfl, rfl, .inl (.inl (.inl ap9.1)), ?_, ?_⟩
      · rw [ss9]
        show zs.length + zs.length * 0 ≤ 16777216
        omega
      have kp9 := kp8.trans k9
      have sl5 : (Txt.join "" zs).cps.toList.length = 5 := by
        rw [sl9, hl9]
        decide
      clear ap9 sl9 ss9 hy9 k9 hl9
      revert sn9 sl5
      generalize Txt.join "" zs = tail
      intro sn9 sl5
      have wl : ((⟨#[letter]⟩ : Str) ++ tail).cps.toList = letter :: tail.cps.toList := by rw [app_codes]; rfl
      have wl6 : ((⟨#[letter]⟩ : Str) ++ tail).length ≤ sizeLine := by
        rw [len_tl, wl, List.length_cons, sl5]
        decide
      refine ⟨⟨#[letter]⟩, tail, rfl, rfl, ?_, ?_⟩
      · rw [len_tl tail, sl5]
        exact (by decide : 1 + 5 ≤ sizeLine)
      have key := row_names (n := count.toNat) (f := fun k => cutS ((⟨#[letter]⟩ : Str) ++ tail) none (some ((k + 1 : Nat) : Int))) (fun k hk => by
        refine vn_of (c := letter) (r := tail.cps.toList.take k) (by rw [cutS_to, wl, List.take_succ_cons]) (by rw [List.length_take]; omega) lL' fun d hd => sn9 d (List.mem_of_mem_take hd)) (fun i k hik hk e => by
        have e2 := congrArg (fun z : Str => z.cps.toList.length) e
        simp only [cutS_to, List.length_take, wl, List.length_cons, sl5] at e2
        omega)
      refine Evl.s_retL (Evl.el_lcR1 (fun _ => true) (fun k => .str (cutS ((⟨#[letter]⟩ : Str) ++ tail) none (some ((k + 1 : Nat) : Int)))) (Evl.ea_cons (Evl.ev_var rfl) Evl.ea_nil) (by omega) (fun _ => rfl) (fun i H1 _ _ => et_yes) (fun i H1 _ hi _ => ?_)) (fun q H10 nq e10 hq => ?_)
      · refine ev_slS (Evl.ev_var rfl) Evl.eo_none (Evl.eo_some (Evl.ev_is (Evl.ev_op (Evl.ev_var rfl) Evl.ev_c Evl.rv_I0) (congrArg V.int ?_))) wl6
        push_cast
        rfl
      · rw [given_all] at hq
        refine hQ q ((List.range count.toNat).map fun k => cutS ((⟨#[letter]⟩ : Str) ++ tail) none (some ((k + 1 : Nat) : Int))) H10 ((D9.ex e10).mono (by omega)) (kp9.trans (D9.exK e10)) (fun b o hb => ne_of_none (kp9 b o hb).1 nq) ?_ key.1 key.2.1 key.2.2
        rw [List.map_map]
        exact D9.exNew e10 nq hq
    -- a letter, the stem, a sign
    have D8 := D7.ex e8
    have kp8 := kp7.trans (D7.exK e8)
    refine ⟨Nat.zero_le _, fun l nl => ?_⟩
    let sg : Nat → Nat := fun k => 97 + ((offset + stride * (k : Int)) % 26).toNat
    let bk : Nat → Str := fun k => if (decide (1 < plan) && decide ((k : Int) % 2 = 1)) = true then "" else stem
    let W : Nat → Str := fun k => if plan % 2 = 0 then (⟨#[letter]⟩ : Str) ++ bk k ++ ⟨#[sg k]⟩ else (⟨#[sg k]⟩ : Str) ++ bk k
    have hsg : ∀ k, sg k < 123 ∧ 97 ≤ sg k ∧ (sg k : Int) = 97 + (offset + stride * (k : Int)) % 26 := fun k => by
      have h1 := Int.emod_nonneg (offset + stride * (k : Int)) (by decide : (26 : Int) ≠ 0)
      have h2 := Int.emod_lt_of_pos (offset + stride * (k : Int)) (by decide : (0 : Int) < 26)
      show 97 + _ < 123 ∧ 97 ≤ 97 + _ ∧ ((97 + _ : Nat) : Int) = _
      omega
    have hsL : ∀ k, isL (sg k) = true := fun k => isL_iff.mpr ⟨(hsg k).2.1, (hsg k).1⟩
    have hsN : ∀ k, isN (sg k) = true := fun k => by unfold isN; rw [hsL k]; rfl
    have hbk : ∀ k, (bk k).cps.toList.length ≤ 4 ∧ ∀ c ∈ (bk k).cps.toList, isN c = true := fun k => by
      show (if (decide (1 < plan) && decide ((k : Int) % 2 = 1)) = true then ("" : Str) else stem).cps.toList.length ≤ 4 ∧ ∀ c ∈ (if (decide (1 < plan) && decide ((k : Int) % 2 = 1)) = true then ("" : Str) else stem).cps.toList, isN c = true
      split
      · exact ⟨by decide +kernel, by decide +kernel⟩
      · exact ⟨sl4, sn⟩
    have hdiff : ∀ i k : Nat, i < k → k < 9 → sg i ≠ sg k := fun i k hik hk e => by
      have e1 := (hsg i).2.2
      have e2 := (hsg k).2.2
      rw [e] at e1
      rcases hstr with rfl | rfl | rfl | rfl | rfl | rfl <;> omega
    have key := row_names (n := count.toNat) (f := W) (fun k hk => by
        show vn (if plan % 2 = 0 then _ else _) = true
        split
        · refine vn_of (c := letter) (r := (bk k).cps.toList ++ [sg k]) (by rw [app_codes, app_codes]; rfl) (by rw [List.length_append]; have := (hbk k).1; simp; omega) lL' fun d hd => ?_
          rcases List.mem_append.mp hd with h | h
          · exact (hbk k).2 d h
          · rw [List.mem_singleton.mp h]
            exact hsN k
        · exact vn_of (c := sg k) (r := (bk k).cps.toList) (by rw [app_codes]; rfl) (by have := (hbk k).1; omega) (hsL k) (hbk k).2) (fun i k hik hk e => by
        have hne := hdiff i k hik (by omega)
        have e2 := congrArg (fun z : Str => z.cps.toList) e
        by_cases hp : plan % 2 = 0
        · simp only [W, if_pos hp, app_codes] at e2
          have e3 := (List.append_inj' e2 rfl).2
          exact hne (List.cons.inj e3).1
        · simp only [W, if_neg hp, app_codes] at e2
          exact hne (List.cons.inj e2).1)
    refine Evl.q_forR1 (Evl.ea_cons (Evl.ev_var rfl) Evl.ea_nil) (by omega) (fun i σ' H' => ∃ a4 a12 a13, σ' = [some (.ref st), some (.int count), some (.str SG36), some (.str stem), a4, some (.str ⟨#[letter]⟩), some (.int offset), some (.int stride), some (.int plan), none, none, some (.ref l), a12, a13] ∧ DS H' st (n + 9) ∧ Kp st H8 H' ∧ Ap H' st l (.lst ((List.range i).map fun k => V.str (W k)))) (fun H1 e1 => ?_) (fun i σ' H' hi ⟨a4, a12, a13, es, Di, ki, ai⟩ => ?_) (fun σ' H' ⟨a4, a12, a13, es, Di, ki, ai⟩ => ?_)
    · exact ⟨none, none, none, rfl, (D8.new nl).ex e1, (D8.newK nl).trans ((D8.new nl).exK e1), (D8.new nl).exK e1 _ _ (D8.fresh nl)⟩
    · subst es
      have hi9 : i < 9 := by omega
      have hs := hsg i
      have hat : atI SG36.cps.toList ((offset + stride * (i : Int)) % 26) = some (sg i) := by
        have : (offset + stride * (i : Int)) % 26 = ((sg i - 97 : Nat) : Int) := by omega
        rw [this]
        refine atI_nat ?_
        rw [sg36_codes, List.getElem?_append_left (by simp; omega), List.getElem?_map, List.getElem?_range (by omega)]
        show some (97 + (sg i - 97)) = some (sg i)
        congr 1
        omega
      refine Evl.q_asg (v := .str ⟨#[sg i]⟩) (Evl.ev_op (Evl.ev_var rfl) (Evl.ev_op (Evl.ev_cb (Evl.ea_cons (Evl.ev_op (Evl.ev_var rfl) (Evl.ev_op (Evl.ev_var rfl) (Evl.ev_var rfl) (Evl.rv_I (.inr ⟨by omega, by omega⟩))) Evl.rv_I0) Evl.ea_nil) rc_int) Evl.ev_c (Evl.rv_I (by decide))) (Evl.rv_ixS (by omega) hat)) fun H1 e1 => ?_
      refine Evl.q_asg (v := .str (bk i)) (ev_ixNew (xs := [.str stem, .str ""]) (i := if (decide (1 < plan) && decide ((i : Int) % 2 = 1)) = true then 1 else 0) (Evl.el_lst (Evl.ea_cons (Evl.ev_var rfl) (Evl.ea_cons Evl.ev_c Evl.ea_nil)) (by show 2 ≤ 100000; decide)) (Evl.ev_cb (Evl.ea_cons (Evl.ev_andV (Evl.ev_op (Evl.ev_var rfl) Evl.ev_c Evl.rv_I0) fun _ => Evl.ev_is (Evl.ev_op (Evl.ev_op (Evl.ev_var rfl) Evl.ev_c (Evl.rv_I (by decide))) Evl.ev_c (Evl.rv_eq rfl)) (congrArg V.bl ?_)) Evl.ea_nil) rc_intB) ?_) fun H2 e2 => ?_
      · by_cases h : (i : Int) % 2 = 1
        · rw [h]
          rfl
        · rw [decide_eq_false h]
          exact decide_eq_false fun z => h (V.int.inj z)
      · show atI [V.str stem, V.str ""] (if (decide (1 < plan) && decide ((i : Int) % 2 = 1)) = true then 1 else 0) = some (V.str (if (decide (1 < plan) && decide ((i : Int) % 2 = 1)) = true then ("" : Str) else stem))
        split
        · rfl
        · exact atI_nat (j := 0) rfl
      have D2 := (Di.ex e1).ex e2
      have kk := ((Di.exK e1).trans ((Di.ex e1).exK e2))
      have a2 := kk _ _ ai
      have hbl : (bk i).length ≤ 4 := by
        rw [len_tl]
        exact (hbk i).1
      have hpl : plan % 2 = 0 ∨ plan % 2 = 1 := by omega
      refine Evl.s_app (v := .str (W i)) a2.1 (Evl.ev_var rfl) (ev_ixNew (xs := [.str ((⟨#[letter]⟩ : Str) ++ bk i ++ ⟨#[sg i]⟩), .str ((⟨#[sg i]⟩ : Str) ++ bk i)]) (i := plan % 2) (Evl.el_lst (Evl.ea_cons (Evl.ev_op (Evl.ev_op (Evl.ev_var rfl) (Evl.ev_var rfl) (rv_addS ?_)) (Evl.ev_var rfl) (rv_addS ?_)) (Evl.ea_cons (Evl.ev_op (Evl.ev_var rfl) (Evl.ev_var rfl) (rv_addS ?_)) Evl.ea_nil)) (by show 2 ≤ 100000; decide)) (Evl.ev_op (Evl.ev_cb (Evl.ea_cons (Evl.ev_var rfl) Evl.ea_nil) rc_int) Evl.ev_c (Evl.rv_I (by decide))) ?_) ?_ fun H3 e3 => ?_
      · exact Nat.le_trans (Nat.add_le_add (Nat.le_refl 1) hbl) (by decide)
      · rw [len_append]
        exact Nat.le_trans (Nat.add_le_add (Nat.add_le_add (Nat.le_refl 1) hbl) (Nat.le_refl 1)) (by decide)
      · exact Nat.le_trans (Nat.add_le_add (Nat.le_refl 1) hbl) (by decide)
      · show atI _ _ = some (V.str (if plan % 2 = 0 then _ else _))
        rcases hpl with h | h
        · rw [if_pos h, h]
          exact atI_nat (j := 0) rfl
        · rw [if_neg (by omega), h]
          exact atI_nat (j := 1) rfl
      · rw [List.length_map, List.length_range]
        omega
      · have D3 := D2.ex e3
        have a3 := D2.exK e3 _ _ a2
        refine ⟨_, _, _, rfl, D3.put a3, ?_, ?_⟩
        · exact Kp.put (ki.trans (kk.trans (D2.exK e3))) nl D3 a3
        · rw [List.range_succ, List.map_append]
          exact D3.putA a3
    · subst es
      refine ⟨.ref l, rfl, ?_⟩
      refine hQ l ((List.range count.toNat).map W) H' (Di.mono (by omega)) (kp8.trans ki) (fun b o hb => ne_of_none (kp8 b o hb).1 nl) ?_ key.1 key.2.1 key.2.2
      rw [List.map_map]
      exact ai
end
end Lw

namespace Lw
open PySem PySem.Spec PyProof.Rows L2
abbrev s_iBadCount : Stmt := inClass (topS 5) 0
abbrev n_iBadCount : List Str := ["self", "count"]
theorem sc_iBadCount : FnScope n_iBadCount ["self", "count"] (defScope s_iBadCount) := ⟨rfl, rfl, rfl, by decide +kernel, rfl, by decide +kernel, by decide +kernel⟩
theorem ok_iBadCount {P : Program} {w : World} {K : PySem.W.Frag} {mg : Str → Option Value} {base : Heap} {f : Addr} {fd : FuncData} {C : Addr} (F : Fun K "__init__" "BadCount.__init__" s_iBadCount f fd) (O : OexC K C) (no : PySem.W.findIn K (.ref C) "count" = some none) : FnOk P w K mg base CX0 1 f fd ["self", "count"] (sp_init1 K C "count") := by
  refine F.ok sc_iBadCount (fun vs H Q E h => ?_) (fun cdv A outer s H vs Q E hr h => ⟨_, pss_one (ps_ost (pv 0) (pv 1)), ?_⟩)
  · obtain ⟨a, y, rfl, _⟩ := h
    rfl
  · obtain ⟨a, y, rfl, ha, hQ⟩ := h
    exact ⟨y, rfl, .ref a, rfl, a, C, rfl, O, no, .inl ⟨ha, hQ⟩⟩
abbrev s_iBadName : Stmt := inClass (topS 2) 0
abbrev n_iBadName : List Str := ["self", "name"]
theorem sc_iBadName : FnScope n_iBadName ["self", "name"] (defScope s_iBadName) := ⟨rfl, rfl, rfl, by decide +kernel, rfl, by decide +kernel, by decide +kernel⟩
theorem ok_iBadName {P : Program} {w : World} {K : PySem.W.Frag} {mg : Str → Option Value} {base : Heap} {f : Addr} {fd : FuncData} {C : Addr} (F : Fun K "__init__" "BadName.__init__" s_iBadName f fd) (O : OexC K C) (no : PySem.W.findIn K (.ref C) "name" = some none) : FnOk P w K mg base CX0 1 f fd ["self", "name"] (sp_init1 K C "name") := by
  refine F.ok sc_iBadName (fun vs H Q E h => ?_) (fun cdv A outer s H vs Q E hr h => ⟨_, pss_one (ps_ost (pv 0) (pv 1)), ?_⟩)
  · obtain ⟨a, y, rfl, _⟩ := h
    rfl
  · obtain ⟨a, y, rfl, ha, hQ⟩ := h
    exact ⟨y, rfl, .ref a, rfl, a, C, rfl, O, no, .inl ⟨ha, hQ⟩⟩
abbrev s_iDuplicateName : Stmt := inClass (topS 3) 0
abbrev n_iDuplicateName : List Str := ["self", "name"]
theorem sc_iDuplicateName : FnScope n_iDuplicateName ["self", "name"] (defScope s_iDuplicateName) := ⟨rfl, rfl, rfl, by decide +kernel, rfl, by decide +kernel, by decide +kernel⟩
theorem ok_iDuplicateName {P : Program} {w : World} {K : PySem.W.Frag} {mg : Str → Option Value} {base : Heap} {f : Addr} {fd : FuncData} {C : Addr} (F : Fun K "__init__" "DuplicateName.__init__" s_iDuplicateName f fd) (O : OexC K C) (no : PySem.W.findIn K (.ref C) "name" = some none) : FnOk P w K mg base CX0 1 f fd ["self", "name"] (sp_init1 K C "name") := by
  refine F.ok sc_iDuplicateName (fun vs H Q E h => ?_) (fun cdv A outer s H vs Q E hr h => ⟨_, pss_one (ps_ost (pv 0) (pv 1)), ?_⟩)
  · obtain ⟨a, y, rfl, _⟩ := h
    rfl
  · obtain ⟨a, y, rfl, ha, hQ⟩ := h
    exact ⟨y, rfl, .ref a, rfl, a, C, rfl, O, no, .inl ⟨ha, hQ⟩⟩
abbrev s_goods_of : Stmt := topS 17
abbrev n_goods_of : List Str := ["names", "at", "name"]
theorem sc_goods_of : FnScope n_goods_of ["names"] (defScope s_goods_of) := ⟨rfl, rfl, rfl, by decide +kernel, rfl, by decide +kernel, by decide +kernel⟩
section
variable {P : Program} {w : World} {K : PySem.W.Frag} {mg : Str → Option Value} {base : Heap}
theorem ok_goods {f CB CN CD fB fN fD fV : Addr} {fd fdB fdN fdD fdV : FuncData} (F : Fun K "goods_of" "goods_of" s_goods_of f fd)
    (EB : ErC P w K mg base "BadCount" "count" CB fB fdB) (EN : ErC P w K mg base "BadName" "name" CN fN fdN) (ED : ErC P w K mg base "DuplicateName" "name" CD fD fdD)
    (F_valid_name : Fun K "valid_name" "valid_name" s_valid_name fV fdV) (b_valid_name : Binds K fdV ["text"] []) (g_valid_name : mg "valid_name" = some (.ref fV)) (G_valid_name : FnOk P w K mg base CX0 2 fV fdV ["text"] sp_vn)
    (m_len : mg "len" = none) (m_enumerate : mg "enumerate" = none) (m_tuple : mg "tuple" = none) (m_sorted : mg "sorted" = none) (m_MOST_GOODS : ∃ u, mg "MOST_GOODS" = some u ∧ RelV (.int 5) u) :
    FnOk P w K mg base (L2.CX P w) 3 f fd ["names"] (sp_goods K CB CN CD) := by
  refine F.okX sc_goods_of (fun vs H Q E h => ?_) (fun cdv A outer s H vs Q E hr h => ?_)
  · obtain ⟨a, ws, rfl, _⟩ := h
    rfl
  · obtain ⟨a, ws, rfl, hS, hT, hL, hQ⟩ := h
    have O_BadCount := EB.O
    have i_BadCount := EB.i
    have t_BadCount := EB.t
    have G_iBadCount := EB.G
    have b_iBadCount := EB.b
    have g_BadCount := EB.g
    have O_BadName := EN.O
    have i_BadName := EN.i
    have t_BadName := EN.t
    have G_iBadName := EN.G
    have b_iBadName := EN.b
    have g_BadName := EN.g
    have O_DuplicateName := ED.O
    have i_DuplicateName := ED.i
    have t_DuplicateName := ED.t
    have G_iDuplicateName := ED.G
    have b_iDuplicateName := ED.b
    have g_DuplicateName := ED.g
    refine ⟨_, (pss_cons (ps_if (pt_not (pt_chain op_le op_le pe_int (pe_callB call_len_seq (by rfl) m_len PySem.boot_len (pa_cons (pv 0) pa_nil)) (pe_gv (by rfl) m_MOST_GOODS)))
   (pss_one (ps_raise rfl (takes_of rfl rfl rfl rfl) (pmk_oex O_BadCount i_BadCount t_BadCount G_iBadCount (hr.mono (by decide)) b_iBadCount .nil pass0 (by rfl) g_BadCount (pa_cons (pe_callB call_len_seq (by rfl) m_len PySem.boot_len (pa_cons (pv 0) pa_nil)) pa_nil))))
   pss_nil)
  (pss_cons (ps_for (passes_of rfl) rfl  (pi_enumS (by rfl) m_enumerate (pa_cons (pv 0) pa_nil)) (pg_tup rfl (pgs_cons (pg_name (i := 1) sc_goods_of.nd rfl (by first | exact .inl rfl | exact .inr rfl)) (pgs_cons (pg_name (i := 2) sc_goods_of.nd rfl (by first | exact .inl rfl | exact .inr rfl)) pgs_nil)))
   (pss_cons (ps_if (pt_not (pt_val (pe_call G_valid_name (hr.mono (by decide)) (by rfl) g_valid_name F_valid_name.kp b_valid_name .nil pass0 (pa_cons (pv 2) pa_nil))))
   (pss_one (ps_raise rfl (takes_of rfl rfl rfl rfl) (pmk_oex O_BadName i_BadName t_BadName G_iBadName (hr.mono (by decide)) b_iBadName .nil pass0 (by rfl) g_BadName (pa_cons (pv 2) pa_nil))))
   pss_nil)
  (pss_one (ps_if (pt_cmpR op_in_seq (pv 2) (pe_slice (SlR.or sl_list sl_tupA) (pv 0) po_none (po_some (pv 1))) (by with_unfolding_all rfl))
   (pss_one (ps_raise rfl (takes_of rfl rfl rfl rfl) (pmk_oex O_DuplicateName i_DuplicateName t_DuplicateName G_iDuplicateName (hr.mono (by decide)) b_iDuplicateName .nil pass0 (by rfl) g_DuplicateName (pa_cons (pv 2) pa_nil))))
   pss_nil))))
  (pss_one (ps_ret (pe_callTy call_tuple_of (by rfl) m_tuple (by decide +kernel) (pa_cons (pe_callB (cr_sortedM hr.units) (by rfl) m_sorted (by decide +kernel) (pa_cons (pv 0) pa_nil)) pa_nil)))))), ?_⟩
    have len : ∀ {H1 : Hp}, Evl.Ex H H1 → Evl.Ev (tCB (fun xs H Q => ∃ p ys, xs = [.ref p] ∧ (SqL K H p ys ∨ SqT K H p ys) ∧ Q (.int ys.length) H) (tCons (tVar 0) tNil)) (start n_goods_of [.ref a]) H1 (.int (ws.length : Int)) := fun {H1} e => by
      rw [← List.length_map (f := V.str)]
      rcases sqs_ex e hS with h | h
      · exact Evl.ev_cb (Evl.ea_cons (Evl.ev_var rfl) Evl.ea_nil) (rc_lenL h)
      · exact Evl.ev_cb (Evl.ea_cons (Evl.ev_var rfl) Evl.ea_nil) (rc_lenT h)
    refine Evl.q_when (b := !(decide ((1 : Int) ≤ (ws.length : Int)) && decide ((ws.length : Int) ≤ 5))) (Evl.et_not (Evl.et_test (ev_chain Evl.ev_c (len (Evl.Ex.refl H)) Evl.rv_I0 (fun _ => Evl.ev_c) (fun _ => Evl.rv_I0)))) (fun hb H1 e1 => ?_) (fun hb H1 e1 => ?_)
    · have hc : gres ws = .cnt := by
        unfold gres
        rw [if_pos]
        simp at hb
        omega
      refine Evl.ea_cons (len e1) Evl.ea_nil H1 (Evl.Ex.refl _) _ fun H2 e2 => ?_
      have := hQ H2 (e1.trans e2)
      rw [goodsAt, hc] at this
      exact mk1_at this
    · have hin : 1 ≤ ws.length ∧ ws.length ≤ 5 := by
        simp at hb
        omega
      refine q_forEn (xs := ws.map V.str) (Evl.ev_var rfl) (sqs_ex e1 hS) (fun i σ' H' => ∃ a1 a2, σ' = [some (.ref a), a1, a2] ∧ Evl.Ex H1 H' ∧ gres ws = scan (ws.take i) (ws.drop i)) (fun H2 e2 => ⟨_, _, rfl, e2, gres_in hin.1 hin.2⟩) (fun i σ' H' ⟨_, _, _, e, _⟩ => e)
        (fun i x σ' H' T hx ⟨a1, a2, es, ei, hg⟩ nT => ?_) (fun σ' H' ⟨a1, a2, es, ei, hg⟩ => ?_)
      · subst es
        rw [List.getElem?_map] at hx
        obtain ⟨s, hs, rfl⟩ := Option.map_eq_some_iff.mp hx
        have hst := hT s (List.mem_of_getElem? hs)
        rw [scan_step hs] at hg
        have eT := Evl.Ex.new (o := HO.tup [.int (i : Nat), .str s]) nT
        refine Evl.q_when (b := !vn s) (Evl.et_not (Evl.et_B (Evl.ev_call (z := .bl (vn s)) (Evl.ea_cons (Evl.ev_var rfl) Evl.ea_nil) fun H2 e2 Q q E => ⟨s, rfl, hst.1, hst.2, fun H3 e3 => q H3 e3⟩))) (fun hb H2 e2 => ?_) (fun hb H2 e2 => ?_)
        · refine Evl.ea_cons (Evl.ev_var rfl) Evl.ea_nil H2 (Evl.Ex.refl _) _ fun H3 e3 => ?_
          rw [if_pos (by simpa using hb)] at hg
          have := hQ H3 ((((e1.trans ei).trans eT).trans e2).trans e3)
          rw [goodsAt, hg] at this
          exact mk1_at this
        · rw [if_neg (by simpa using hb)] at hg
          have e02 := ((e1.trans ei).trans eT).trans e2
          refine Evl.s_when (b := decide (s ∈ ws.take i)) (Evl.et_test (Evl.ev_is (ev_inS (Evl.ev_var rfl) (es_sl (Evl.ev_var rfl) Evl.eo_none (Evl.eo_some (Evl.ev_var rfl)) (sqs_ex e02 hS)) rfl ?_) ?_)) (fun hb H3 e3 => ?_) (fun hb H3 e3 => ?_)
          · rw [cutV_to, ← List.map_take]
            exact flat_strs _
          · rw [cutV_to, ← List.map_take, inV_strs]
            rfl
          · refine Evl.ea_cons (Evl.ev_var rfl) Evl.ea_nil H3 (Evl.Ex.refl _) _ fun H4 e4 => ?_
            rw [if_pos (of_decide_eq_true hb)] at hg
            have := hQ H4 ((e02.trans e3).trans e4)
            rw [goodsAt, hg] at this
            exact mk1_at this
          · rw [if_neg (of_decide_eq_false hb)] at hg
            exact ⟨_, _, rfl, ((ei.trans eT).trans e2).trans e3, hg⟩
      · subst es
        rw [List.length_map, scan_end] at hg
        have e01 := e1.trans ei
        refine ⟨.ref a, rfl, ⟨Str, a, ws, V.str, PyData.str, rfl, sqs_ex e01 hS, fun b _ => .str b, ?_, ?_, fun b _ => by simp [PyData.depth], fun p hp => ?_⟩⟩
        · exact PySem.W.AllAlike.of fun _ _ => rfl
        · exact PySem.W.Sortable.others fun _ => ⟨(by intro h; cases h), (by intro _ h; cases h)⟩
        · refine ⟨p, _, rfl, .inl ⟨Evl.sq_of upd_same, fun l hl => ?_⟩⟩
          have := hQ _ (e01.trans (Evl.Ex.new (o := .lst ((srt ws).map V.str)) hp))
          rw [goodsAt, hg] at this
          exact this l hl
end
end Lw

namespace Lw
open PySem PySem.Spec PyProof.Rows L2
abbrev s_law_order : Stmt := topS 27
abbrev n_law_order : List Str := ["_law_state", "_law_items", "_law_left", "_law_told_here", "_law_k"]
theorem sc_law_order : FnScope n_law_order ["_law_state", "_law_items"] (defScope s_law_order) := ⟨rfl, rfl, rfl, by decide +kernel, rfl, by decide +kernel, by decide +kernel⟩
section
variable {P : Program} {w : World} {K : PySem.W.Frag} {mg : Str → Option Value} {base : Heap}
theorem perm_pop {α : Type} {l : List α} {i : Nat} (h : i < l.length) : ([l[i]] ++ l.eraseIdx i).Perm l := by
  rw [List.eraseIdx_eq_take_drop_succ]
  have e : l.take i ++ l[i] :: l.drop (i + 1) = l := by rw [← List.drop_eq_getElem_cons h, List.take_append_drop]
  refine List.Perm.trans ?_ (List.Perm.of_eq e)
  rw [List.singleton_append]
  exact List.perm_middle.symm
/-- the items in some order, in a new list -/
def sp_order (K : PySem.W.Frag) : Sp := fun vs H Q _ => ∃ (st l : Addr) (n : Nat) (xs : List V), vs = [.ref st, .ref l] ∧ DS H st n ∧ n ≤ 900000000 ∧ SqL K H l xs ∧ xs.length ≤ 1000 ∧
  ∀ (p : Addr) (ys : List V) (H' : Hp), DS H' st (n + xs.length) → Kp st H H' → (∀ b o, Ap H st b o → b ≠ p) → Ap H' st p (.lst ys) → ys.Perm xs → Q (.ref p) H'
theorem ok_order {f f2 : Addr} {fd fd2 : FuncData} (F : Fun K "_law_order" "_law_order" s_law_order f fd)
    (F_law_draw : Fun K "_law_draw" "_law_draw" s_law_draw f2 fd2) (b_law_draw : Binds K fd2 ["_law_state", "_law_size"] []) (g_law_draw : mg "_law_draw" = some (.ref f2)) (G_law_draw : FnOk P w K mg base CX0 1 f2 fd2 ["_law_state", "_law_size"] sp_draw)
    (m_range : mg "range" = none) (m_len : mg "len" = none) (m_list : mg "list" = none) : FnOk P w K mg base CX0 2 f fd ["_law_state", "_law_items"] (sp_order K) := by
  refine F.ok sc_law_order (fun vs H Q E h => ?_) (fun cdv A outer s H vs Q E hr h => ?_)
  · obtain ⟨st, l, n, xs, rfl, _⟩ := h
    rfl
  · obtain ⟨st, l, n, xs, rfl, D, hn, hS, hL, hQ⟩ := h
    refine ⟨_, (pss_cons (ps_set (i := 2) sc_law_order.nd rfl (by first | exact .inl rfl | exact .inr rfl) (pe_callTy call_list_of (by rfl) m_list (by decide +kernel) (pa_cons (pv 1) pa_nil)))
  (pss_cons (ps_set (i := 3) sc_law_order.nd rfl (by first | exact .inl rfl | exact .inr rfl) (pe_lst pa_nil))
  (pss_cons (ps_for PassesOwn.never rfl  (pi_range1 (by rfl) m_range (pa_cons (pe_callB call_len_seq (by rfl) m_len PySem.boot_len (pa_cons (pv 2) pa_nil)) pa_nil)) (pg_name (i := 4) sc_law_order.nd rfl (by first | exact .inl rfl | exact .inr rfl))
   (pss_one (ps_expr (pe_bm PySem.F.plainAttrs_list PySem.F.slot_list_append PySem.F.type_list_append mt_append (pv 3) (pa_cons (pe_bm PySem.F.plainAttrs_list PySem.F.slot_list_pop PySem.F.type_list_pop mt_popAt (pv 2) (pa_cons (pe_call G_law_draw (hr.mono (by decide)) (by rfl) g_law_draw F_law_draw.kp b_law_draw .nil pass0 (pa_cons (pv 0) (pa_cons (pe_callB call_len_seq (by rfl) m_len PySem.boot_len (pa_cons (pv 2) pa_nil)) pa_nil))) pa_nil)) pa_nil)))))
  (pss_one (ps_ret (pv 3)))))), ?_⟩
    refine ⟨.ref l, rfl, l, xs, rfl, .inl hS, fun L nL => ⟨Nat.zero_le _, fun T nT => ?_⟩⟩
    have D2 := (D.new (o := .lst xs) nL).new (o := .lst []) nT
    have neLT : L ≠ T := ne_of_none (upd_same (H := H) (o := .lst xs)) nT
    have aL : Ap (upd (upd H L (.lst xs)) T (.lst [])) st L (.lst xs) := (D.new nL).newK nT _ _ (D.fresh nL)
    have kp0 : Kp st H (upd (upd H L (.lst xs)) T (.lst [])) := (D.newK nL).trans ((D.new nL).newK nT)
    have nT0 : H T = none := Evl.fresh_back (Evl.Ex.new nL) nT
    refine Evl.q_forR1 (n := (xs.length : Int)) (Evl.ea_cons (Evl.ev_cb (Evl.ea_cons (Evl.ev_var rfl) Evl.ea_nil) (rc_lenL (Evl.sq_of aL.1))) Evl.ea_nil) (by omega)
      (fun i σ' H' => ∃ a4 ls ts, σ' = [some (.ref st), some (.ref l), some (.ref L), some (.ref T), a4] ∧ DS H' st (n + i) ∧ Kp st H H' ∧ Ap H' st L (.lst ls) ∧ Ap H' st T (.lst ts) ∧ ls.length + i = xs.length ∧ (ts ++ ls).Perm xs)
      (fun H1 e1 => ⟨none, xs, [], rfl, D2.ex e1, kp0.trans (D2.exK e1), D2.exK e1 _ _ aL, D2.exK e1 _ _ ((D.new nL).fresh nT), rfl, List.Perm.refl _⟩) (fun i σ' H' hi ⟨a4, ls, ts, es, Di, ki, al, at_, hl, hp⟩ => ?_) (fun σ' H' ⟨a4, ls, ts, es, Di, ki, al, at_, hl, hp⟩ => ?_)
    · subst es
      have hpos : 0 < ls.length := by omega
      refine ⟨.ref T, rfl, .inl ⟨rfl, ts, Evl.sq_of at_.1⟩, .ref L, rfl, .inl ⟨rfl, ls, Evl.sq_of al.1⟩, .ref st, rfl, .ref L, rfl, L, ls, rfl, .inl (Evl.sq_of al.1), st, (ls.length : Int), n + i, rfl, Di, by omega, by omega, by omega, fun d H1 d0 d1 D1 k1 => ?_⟩
      have al1 := k1 _ _ al
      have at1 := k1 _ _ at_
      obtain ⟨j, hj, hjl⟩ := ixN_some d0 d1
      have hy := List.getElem?_eq_getElem hjl
      have neTL : T ≠ L := neLT.symm
      have D2' := D1.put (u := .lst (ls.eraseIdx j)) al1
      have at2 := Ap.put (u := .lst (ls.eraseIdx j)) D1 al1 at1 neTL
      have al2 := D1.putA (u := .lst (ls.eraseIdx j)) al1
      have hlen : ts.length + ls.length = xs.length := by
        rw [← hp.length_eq, List.length_append]
      refine ⟨L, ls, d, j, ls[j], rfl, rfl, al1.1, by omega, by omega, (ixN_seq hj).1, hy, T, ts, ls[j], rfl, rfl, at2.1, Evl.sz_lt (by omega), ?_⟩
      refine ⟨_, ls.eraseIdx j, ts ++ [ls[j]], rfl, (D2'.put at2).mono (by omega), ?_, Ap.put D2' at2 al2 neLT, D2'.putA at2, ?_, ?_⟩
      · exact Kp.put (Kp.put (ki.trans k1) nL D1 al1) nT0 D2' at2
      · rw [List.length_eraseIdx_of_lt hjl]
        omega
      · refine List.Perm.trans ?_ hp
        rw [List.append_assoc]
        exact List.Perm.append_left ts (perm_pop hjl)
    · subst es
      have : ls = [] := List.length_eq_zero_iff.mp (by omega)
      subst this
      rw [List.append_nil] at hp
      exact ⟨.ref T, rfl, hQ T ts H' Di ki (fun b o hb => ne_of_none hb.1 nT0) at_ hp⟩
end
end Lw

namespace Lw
open PySem PySem.Spec PyProof.Rows L2
abbrev s_is_whole : Stmt := topS 20
abbrev n_is_whole : List Str := ["value", "least", "most"]
theorem sc_is_whole : FnScope n_is_whole ["value", "least", "most"] (defScope s_is_whole) := ⟨rfl, rfl, rfl, by decide +kernel, rfl, by decide +kernel, by decide +kernel⟩
section
variable {P : Program} {w : World} {K : PySem.W.Frag} {mg : Str → Option Value} {base : Heap}
theorem ok_whole {f : Addr} {fd : FuncData} {k : Nat} (F : FunD K "is_whole" "is_whole" (defArgs s_is_whole) (defBody s_is_whole) (defScope s_is_whole) [.non] [] f fd) (m_isinstance : mg "isinstance" = none) (m_int : mg "int" = none) (m_bool : mg "bool" = none) : FnOk P w K mg base CX0 (k + 1) f fd ["value", "least", "most"] sp_whole := by
  refine F.ok sc_is_whole (fun vs H Q E h => ?_) (fun cdv A outer s H vs Q E hr h => ?_)
  · obtain ⟨v, low, rfl, _⟩ := h
    rfl
  · obtain ⟨v, low, rfl, hA, hQ⟩ := h
    refine ⟨_, (pss_cons (ps_if (PW.pt (pw_or (pt_val (pe_callB call_isi (by rfl) m_isinstance PyProof.Rows.boot_isinstance (pa_cons (pv 0) (pa_cons (pe_bltn (v := .ty "bool") (by rfl) m_bool (by decide +kernel) rfl) pa_nil)))) (pw_or1 (pt_not (pt_val (pe_callB call_isi (by rfl) m_isinstance PyProof.Rows.boot_isinstance (pa_cons (pv 0) (pa_cons (pe_bltn (v := .ty "int") (by rfl) m_int (by decide +kernel) rfl) pa_nil))))))))
   (pss_one (ps_ret pe_bl))
   pss_nil)
  (pss_one (ps_ret (pe_and (pe_cmpR op_ge (pv 0) (pv 1) (nomark _)) (pe_one (pe_or (pe_cmpR op_isN (pv 2) pe_non (nomark _)) (pe_one (pe_cmpR op_le (pv 0) (pv 2) (nomark _))))))))), ?_⟩
    refine Evl.q_when (b := isBl v || !isIn v) (Evl.et_or (Evl.et_test (Evl.ev_cb (Evl.ea_cons (Evl.ev_var rfl) (Evl.ea_cons Evl.ev_c Evl.ea_nil)) (rc_isB hA))) fun _ => Evl.et_not (Evl.et_test (Evl.ev_cb (Evl.ea_cons (Evl.ev_var rfl) (Evl.ea_cons Evl.ev_c Evl.ea_nil)) (rc_isI hA)))) (fun hb H1 e1 => ?_) (fun hb H1 e1 => ?_)
    · have hw : whole v low = false := by
        rw [whole_of]
        cases h1 : isBl v <;> cases h2 : isIn v <;> simp_all
      refine Evl.s_ret (v := .bl false) Evl.ev_c fun H2 e2 => ?_
      have := hQ H2 (e1.trans e2)
      rw [hw] at this
      exact this
    · rw [Bool.or_eq_false_iff] at hb
      obtain ⟨i, rfl⟩ := int_of (v := v) (by simpa using hb.2) hb.1
      refine Evl.s_ret (v := .bl (whole (.int i) low)) (Evl.ev_is (Evl.ev_andV (b := true) (Evl.ev_op (Evl.ev_var rfl) (Evl.ev_var rfl) Evl.rv_I0) fun _ => Evl.ev_is (Evl.ev_orV (a := true) (b := true) (Evl.ev_op (Evl.ev_var rfl) Evl.ev_c fun H2 e2 Q q => ⟨rfl, q H2 (Evl.Ex.refl _)⟩) (fun h => by cases h)) rfl) ?_) fun H2 e2 => hQ H2 (e1.trans e2)
      simp [whole]
end
end Lw

namespace Lw
open PySem PySem.Spec PyProof.Rows L2
abbrev s_law_costs : Stmt := topS 28
abbrev n_law_costs : List Str := ["_law_state", "_law_stock", "_law_scale", "_law_costs_here", "_law_label"]
theorem sc_law_costs : FnScope n_law_costs ["_law_state", "_law_stock", "_law_scale"] (defScope s_law_costs) := ⟨rfl, rfl, rfl, by decide +kernel, rfl, by decide +kernel, by decide +kernel⟩
section
variable {P : Program} {w : World} {K : PySem.W.Frag} {mg : Str → Option Value} {base : Heap}
theorem ok_costs {f f2 f3 : Addr} {fd fd2 fd3 : FuncData} (F : Fun K "_law_costs" "_law_costs" s_law_costs f fd)
    (F_law_draw : Fun K "_law_draw" "_law_draw" s_law_draw f2 fd2) (b_law_draw : Binds K fd2 ["_law_state", "_law_size"] []) (g_law_draw : mg "_law_draw" = some (.ref f2)) (G_law_draw : FnOk P w K mg base CX0 1 f2 fd2 ["_law_state", "_law_size"] sp_drawW)
    (F_law_order : Fun K "_law_order" "_law_order" s_law_order f3 fd3) (b_law_order : Binds K fd3 ["_law_state", "_law_items"] []) (g_law_order : mg "_law_order" = some (.ref f3)) (G_law_order : FnOk P w K mg base CX0 2 f3 fd3 ["_law_state", "_law_items"] (sp_order K))
    (m_list : mg "list" = none) : FnOk P w K mg base CX0 3 f fd ["_law_state", "_law_stock", "_law_scale"] (sp_costs K) := by
  refine F.ok sc_law_costs (fun vs H Q E h => ?_) (fun cdv A outer s H vs Q E hr h => ?_)
  · obtain ⟨st, g, n, ws, scale, rfl, _⟩ := h
    rfl
  · obtain ⟨st, g, n, ws, scale, rfl, D, hn, hS, hL, s0, s1, hQ⟩ := h
    refine ⟨_, (pss_cons (ps_set (i := 3) sc_law_costs.nd rfl (by first | exact .inl rfl | exact .inr rfl) pe_dnewK)
  (pss_cons (ps_for PassesOwn.never rfl  (pi_list (pe_call G_law_order (hr.mono (by decide)) (by rfl) g_law_order F_law_order.kp b_law_order .nil pass0 (pa_cons (pv 0) (pa_cons (pe_callTy call_list_of (by rfl) m_list (by decide +kernel) (pa_cons (pv 1) pa_nil)) pa_nil)))) (pg_name (i := 4) sc_law_costs.nd rfl (by first | exact .inl rfl | exact .inr rfl))
   (pss_one (ps_dput (hu_of hr) (pv 3) (pv 4) (pe_call G_law_draw (hr.mono (by decide)) (by rfl) g_law_draw F_law_draw.kp b_law_draw .nil pass0 (pa_cons (pv 0) (pa_cons (pv 2) pa_nil))) rfl)))
  (pss_one (ps_ret (pv 3))))), ?_⟩
    intro d nd
    have D1 := D.new (o := .dK []) nd
    have k1 := D.newK (o := .dK []) nd
    have a1 := D.fresh (o := .dK []) nd
    refine ⟨.ref st, rfl, .ref g, rfl, g, ws.map V.str, rfl, .inl (Evl.ex_l (Evl.Ex.new nd) hS), fun l nl => ?_⟩
    have D2 := D1.new (o := .lst (ws.map V.str)) nl
    have k2 := D1.newK (o := .lst (ws.map V.str)) nl
    have a2 := k2 _ _ a1
    refine ⟨st, l, n, ws.map V.str, rfl, D2, by omega, Evl.sq_of upd_same, by rw [List.length_map]; exact hL, fun p ys H3 D3 k3 f3 a3 hp => ?_⟩
    rw [List.length_map] at D3
    obtain ⟨zs, rfl, hz⟩ := perm_strs hp
    have hzl := hz.length_eq
    have ad3 := k3 _ _ a2
    have ned : d ≠ p := f3 _ _ a2
    refine ⟨p, rfl, ⟨_, Evl.sq_of a3.1⟩, ?_⟩
    refine for_it (walk_list (xs := zs.map V.str)) (fun i σ' H' => ∃ a4 kvs ks, σ' = [some (.ref st), some (.ref g), some (.int scale), some (.ref d), a4] ∧ DS H' st (n + ws.length + i) ∧ Kp st H H' ∧ Ap H' st p (.lst (zs.map V.str)) ∧ Ap H' st d (.dK kvs) ∧ KD kvs ks ∧ ks.Nodup ∧ ks.length ≤ i ∧ (∀ s, s ∈ ks ↔ s ∈ zs.take i) ∧ (∀ p ∈ kvs, ∃ j, p.2 = .int j))
      ⟨none, [], [], rfl, D3, (k1.trans k2).trans k3, a3, ad3, rfl, List.nodup_nil, Nat.le_refl _, fun s => by simp, fun _ h => by cases h⟩ (fun i σ' H' _ h => ?_) (fun i x σ' H' H'' hi h y => ?_) (fun σ' H' h => ?_)
    · obtain ⟨a4, kvs, ks, _, _, _, h3, _⟩ := h
      exact Evl.sq_of h3.1
    · obtain ⟨a4, kvs, ks, rfl, Di, ki, ap, ad, hk, hnd, hkl, hm, hv⟩ := h
      obtain ⟨rfl, hx⟩ := y
      rw [List.length_map] at hi
      rw [List.getElem?_map] at hx
      obtain ⟨z, hz1, rfl⟩ := Option.map_eq_some_iff.mp hx
      refine ⟨.ref st, rfl, .int scale, rfl, st, scale, n + ws.length + i, rfl, Di, by omega, s0, s1, fun e H5 e0 e1 D5 k5 => ?_⟩
      have ad5 := k5 _ _ ad
      have ap5 := k5 _ _ ap
      refine ⟨.ref d, rfl, .str z, rfl, d, _, rfl, DPut.k (k := .inr z) ad5.1 (Evl.sz_lt (by rw [hk.len]; omega)), ?_⟩
      refine ⟨_, putK kvs (.inr z) (.int e), addK ks z, rfl, D5.put ad5, Kp.put (ki.trans k5) nd D5 ad5, Ap.put D5 ad5 ap5 ned.symm, D5.putA ad5, hk.put z _, addK_nd hnd, Nat.le_trans addK_len (by omega), fun s => ?_, fun q hq => ?_⟩
      · rw [addK_mem, hm, List.take_add_one, hz1, List.mem_append]
        simp
      · rcases put_mem hq with h | h
        · exact hv q h
        · exact ⟨e, h⟩
    · obtain ⟨a4, kvs, ks, rfl, Di, ki, ap, ad, hk, hnd, hkl, hm, hv⟩ := h
      rw [List.length_map] at Di hm hkl
      refine ⟨.ref d, rfl, hQ d kvs ks H' (Di.mono (by omega)) ki (fun b o hb => ne_of_none hb.1 nd) ad hk hnd (by omega) (fun s => ?_) hv⟩
      rw [hm, List.take_length]
      exact hz.mem_iff
end
end Lw

namespace Lw
open PySem PySem.Spec PyProof.Rows L2
abbrev s_iBadPrice : Stmt := inClass (topS 7) 0
abbrev n_iBadPrice : List Str := ["self", "price"]
theorem sc_iBadPrice : FnScope n_iBadPrice ["self", "price"] (defScope s_iBadPrice) := ⟨rfl, rfl, rfl, by decide +kernel, rfl, by decide +kernel, by decide +kernel⟩
theorem ok_iBadPrice {P : Program} {w : World} {K : PySem.W.Frag} {mg : Str → Option Value} {base : Heap} {f : Addr} {fd : FuncData} {C : Addr} (F : Fun K "__init__" "BadPrice.__init__" s_iBadPrice f fd) (O : OexC K C) (no : PySem.W.findIn K (.ref C) "price" = some none) : FnOk P w K mg base CX0 1 f fd ["self", "price"] (sp_init1 K C "price") := by
  refine F.ok sc_iBadPrice (fun vs H Q E h => ?_) (fun cdv A outer s H vs Q E hr h => ⟨_, pss_one (ps_ost (pv 0) (pv 1)), ?_⟩)
  · obtain ⟨a, y, rfl, _⟩ := h
    rfl
  · obtain ⟨a, y, rfl, ha, hQ⟩ := h
    exact ⟨y, rfl, .ref a, rfl, a, C, rfl, O, no, .inl ⟨ha, hQ⟩⟩
abbrev s_iBadUnit : Stmt := inClass (topS 8) 0
abbrev n_iBadUnit : List Str := ["self", "value"]
theorem sc_iBadUnit : FnScope n_iBadUnit ["self", "value"] (defScope s_iBadUnit) := ⟨rfl, rfl, rfl, by decide +kernel, rfl, by decide +kernel, by decide +kernel⟩
theorem ok_iBadUnit {P : Program} {w : World} {K : PySem.W.Frag} {mg : Str → Option Value} {base : Heap} {f : Addr} {fd : FuncData} {C : Addr} (F : Fun K "__init__" "BadUnit.__init__" s_iBadUnit f fd) (O : OexC K C) (no : PySem.W.findIn K (.ref C) "value" = some none) : FnOk P w K mg base CX0 1 f fd ["self", "value"] (sp_init1 K C "value") := by
  refine F.ok sc_iBadUnit (fun vs H Q E h => ?_) (fun cdv A outer s H vs Q E hr h => ⟨_, pss_one (ps_ost (pv 0) (pv 1)), ?_⟩)
  · obtain ⟨a, y, rfl, _⟩ := h
    rfl
  · obtain ⟨a, y, rfl, ha, hQ⟩ := h
    exact ⟨y, rfl, .ref a, rfl, a, C, rfl, O, no, .inl ⟨ha, hQ⟩⟩
abbrev s_Prices_init : Stmt := inClass (topS 22) 0
abbrev n_Prices_init : List Str := ["self", "amounts", "unit", "good"]
theorem sc_Prices_init : FnScope n_Prices_init ["self", "amounts", "unit"] (defScope s_Prices_init) := ⟨rfl, rfl, rfl, by decide +kernel, rfl, by decide +kernel, by decide +kernel⟩
theorem ev_fld {K : PySem.W.Frag} {ta : TE} {σ : L2.St} {H : Hp} {a C dx : Addr} {fs : List (Str × V)} {f : Str} {v : V} (h : Evl.Ev ta σ H (.ref a)) (hx : H a = some (.ins C dx fs)) (c : Cls K C) (n : NoAttr K C f) (l : fs.lookup f = some v) : Evl.Ev (tFld K ta f) σ H v :=
  fun H1 e Q q => h H1 e _ fun H2 e2 => ⟨a, C, dx, fs, v, rfl, (e.trans e2) _ _ hx, c, n, l, q H2 e2⟩
theorem ev_dgetK {td ty : TE} {σ : L2.St} {H : Hp} {a : Addr} {kvs : List (Key × V)} {s : Str} {v : V} (h1 : Evl.Ev td σ H (.ref a)) (h2 : Evl.Ev ty σ H (.str s)) (ha : H a = some (.dK kvs)) (hv : valV kvs (.inr s) = some v) : Evl.Ev (tDGet td ty) σ H v :=
  fun H1 e Q q => h1 H1 e _ fun H2 e2 => h2 H2 (e.trans e2) _ fun H3 e3 => ⟨a, v, rfl, by rw [← hv]; exact DGet.k (k := .inr s) ((e.trans (e2.trans e3)) _ _ ha), q H3 (e2.trans e3)⟩
theorem FrX.back {x D : Addr} {H H1 : Hp} {o : HO} (h : FrX x H H1) (n : H1 D = none) (hx : H1 x = some o) : H D = none := by
  cases hd : H D with
  | none => rfl
  | some u =>
    by_cases e : D = x
    · subst e
      rw [n] at hx
      cases hx
    · rw [h _ _ hd e] at n
      cases n
theorem FrX.am {x : Addr} {H H1 : Hp} {v : V} {o : HO} (h : FrX x H H1) (hx : H x = some o) (ho : o ≠ .tup []) (ha : AmX H v) : AmX H1 v := by
  rcases ha with a | a | a | a | ⟨t, h1, h2⟩
  · exact .inl a
  · exact .inr (.inl a)
  · exact .inr (.inr (.inl a))
  · exact .inr (.inr (.inr (.inl a)))
  · refine .inr (.inr (.inr (.inr ⟨t, h1, h _ _ h2 fun z => ho ?_⟩)))
    rw [z, hx] at h2
    exact Option.some.inj h2
section
variable {P : Program} {w : World} {K : PySem.W.Frag} {mg : Str → Option Value} {base : Heap}
theorem ok_init {f CP CB CN CD CA CU fA fU f2 f3 : Addr} {fd fdA fdU fd2 fd3 : FuncData} {ds : List Value} (F : FunD K "__init__" "Prices.__init__" (defArgs s_Prices_init) (defBody s_Prices_init) (defScope s_Prices_init) [] [("unit", .int 1)] f fd)
    (cls : Cls K CP) (noG : NoAttr K CP "_goods") (noA : NoAttr K CP "_amounts") (noU : NoAttr K CP "_unit")
    (EA : ErC P w K mg base "BadPrice" "price" CA fA fdA) (EU : ErC P w K mg base "BadUnit" "value" CU fU fdU)
    (F_goods_of : Fun K "goods_of" "goods_of" s_goods_of f2 fd2) (b_goods_of : Binds K fd2 ["names"] []) (g_goods_of : mg "goods_of" = some (.ref f2)) (G_goods_of : FnOk P w K mg base (L2.CX P w) 3 f2 fd2 ["names"] (sp_goods K CB CN CD))
    (F_is_whole : FunD K "is_whole" "is_whole" (defArgs s_is_whole) (defBody s_is_whole) (defScope s_is_whole) [.non] [] f3 fd3) (b_is_whole : Binds K fd3 ["value", "least", "most"] ds) (d_is_whole : Vals [.non] ds) (g_is_whole : mg "is_whole" = some (.ref f3)) (G_is_whole : FnOk P w K mg base CX0 1 f3 fd3 ["value", "least", "most"] sp_whole)
    (m_sorted : mg "sorted" = none) : FnOk P w K mg base (L2.CX P w) 4 f fd ["self", "amounts", "unit"] (sp_init K ⟨CP, CB, CN, CD, CA, CU⟩) := by
  refine F.ok (CX := L2.CX P w) sc_Prices_init (fun vs H Q E h => ?_) (fun cdv A outer s H vs Q E hr h => ?_)
  · obtain ⟨x, dx, d, kvs, ks, u, rfl, _⟩ := h
    rfl
  · obtain ⟨x, dx, d, kvs, ks, u, rfl, hx, hd, hk, hT, hl, hA, hU, hQ⟩ := h
    have O_BadPrice := EA.O
    have i_BadPrice := EA.i
    have t_BadPrice := EA.t
    have G_iBadPrice := EA.G
    have b_iBadPrice := EA.b
    have g_BadPrice := EA.g
    have O_BadUnit := EU.O
    have i_BadUnit := EU.i
    have t_BadUnit := EU.t
    have G_iBadUnit := EU.G
    have b_iBadUnit := EU.b
    have g_BadUnit := EU.g
    have ndx : d ≠ x := fun e => by
      rw [e, hx] at hd
      cases hd
    refine ⟨_, (pss_cons (ps_fld (pv 0) (pe_call G_goods_of (hr.mono (by decide)) (by rfl) g_goods_of F_goods_of.kp b_goods_of .nil (passUp (takes_of rfl rfl rfl rfl) (fun _ _ _ _ h => h)) (pa_cons (pe_callB (call_sortedD rfl) (by rfl) m_sorted (by decide +kernel) (pa_cons (pv 1) pa_nil)) pa_nil)) rfl)
  (pss_cons (ps_for (passes_of rfl) rfl  (pi_tup (pe_fld (pv 0) rfl)) (pg_name (i := 3) sc_Prices_init.nd rfl (by first | exact .inl rfl | exact .inr rfl))
   (pss_one (ps_if (pt_not (pt_val (pe_call G_is_whole (hr.mono (by decide)) (by rfl) g_is_whole F_is_whole.kp b_is_whole d_is_whole pass0 (pa_cons (pe_dget (hu_of hr) (pv 1) (pv 3) (fun _ _ => rfl)) (pa_cons pe_int pa_nil)))))
   (pss_one (ps_raise rfl (takes_of rfl rfl rfl rfl) (pmk_oex O_BadPrice i_BadPrice t_BadPrice G_iBadPrice (hr.mono (by decide)) b_iBadPrice .nil pass0 (by rfl) g_BadPrice (pa_cons (pe_dget (hu_of hr) (pv 1) (pv 3) (fun _ _ => rfl)) pa_nil))))
   pss_nil)))
  (pss_cons (ps_if (pt_not (pt_val (pe_call G_is_whole (hr.mono (by decide)) (by rfl) g_is_whole F_is_whole.kp b_is_whole d_is_whole pass0 (pa_cons (pv 2) (pa_cons pe_int pa_nil)))))
   (pss_one (ps_raise rfl (takes_of rfl rfl rfl rfl) (pmk_oex O_BadUnit i_BadUnit t_BadUnit G_iBadUnit (hr.mono (by decide)) b_iBadUnit .nil pass0 (by rfl) g_BadUnit (pa_cons (pv 2) pa_nil))))
   pss_nil)
  (pss_cons (ps_fld (pv 0) (pe_dc (own := [("good", 3)]) (g := gName 3) (by rfl) sc_Prices_init.nd (pi_tup (pe_fld (pv 0) rfl)) (blkOk_by (own := [("good", 3)]) (N := n_Prices_init) (sc := defScope s_Prices_init) (by decide +kernel)) (fun _ _ _ _ _ => pg_name (i := 3) sc_Prices_init.nd rfl (by first | exact .inl rfl | exact .inr rfl)) (fun _ _ _ _ _ => pts_nil) (fun _ _ _ _ _ => (pv 3)) (fun _ _ _ _ _ => (pe_dget (hu_of hr) (pv 1) (pv 3) (fun _ _ => rfl)))) rfl)
  (pss_one (ps_fld (pv 0) (pv 2) rfl)))))), ?_⟩
    refine ⟨.ref d, rfl, d, kvs, ks, rfl, .inl hd, hk, by omega, fun ys p hp hs np => ?_⟩
    obtain rfl := srt_only hp hs
    refine ⟨p, srt ks, rfl, .inl (Evl.sq_of upd_same), srt_ok hT, by rw [srt_len]; omega, fun H1 e1 => ?_⟩
    have e01 : Evl.Ex H H1 := (Evl.Ex.new np).trans e1
    have fr1 : FrX x H H1 := fun b o hb _ => e01 _ _ hb
    unfold initAt pres at hQ
    cases hg : gres (srt ks) with
    | cnt =>
      rw [goodsAt, hg]
      rw [hg] at hQ
      intro d' nd
      exact hQ _ d' (fr1.ex (Evl.Ex.new nd)) (by rw [upd_same, srt_len])
    | nm s =>
      rw [goodsAt, hg]
      rw [hg] at hQ
      intro d' nd
      exact hQ _ d' (fr1.ex (Evl.Ex.new nd)) upd_same
    | tw s =>
      rw [goodsAt, hg]
      rw [hg] at hQ
      intro d' nd
      exact hQ _ d' (fr1.ex (Evl.Ex.new nd)) upd_same
    | ok =>
      rw [goodsAt, hg]
      rw [hg] at hQ
      intro g ng
      rw [srt_idem]
      have eg := Evl.Ex.new (o := .tup ((srt ks).map V.str)) ng
      have ngx : g ≠ x := fun e => by
        rw [e, e01 _ _ hx] at ng
        cases ng
      refine ⟨.ref x, rfl, x, CP, dx, [], rfl, eg _ _ (e01 _ _ hx), cls, noG, by decide, ?_⟩
      have fr3 : FrX x H (upd (upd H1 g (.tup ((srt ks).map V.str))) x (.ins CP dx [("_goods", .ref g)])) := (fr1.ex eg).put
      have hx3 : (upd (upd H1 g (.tup ((srt ks).map V.str))) x (.ins CP dx [("_goods", .ref g)])) x = some (.ins CP dx [("_goods", .ref g)]) := upd_same
      have hg3 : (upd (upd H1 g (.tup ((srt ks).map V.str))) x (.ins CP dx [("_goods", .ref g)])) g = some (.tup ((srt ks).map V.str)) := by
        rw [upd_ne ngx]
        exact upd_same
      have ngH : H g = none := Evl.fresh_back e01 ng
      show tSeq _ _ _ _ (upd (upd H1 g (.tup ((srt ks).map V.str))) x (.ins CP dx [("_goods", .ref g)]))
      clear fr1 eg e01 e1 ng np
      revert fr3 hx3 hg3
      generalize upd (upd H1 g (.tup ((srt ks).map V.str))) x (.ins CP dx [("_goods", .ref g)]) = H3
      intro fr3 hx3 hg3
      have hd3 : H3 d = some (.dK kvs) := fr3 _ _ hd ndx
      have hU3 : AmX H3 u := fr3.am hx (by intro h; cases h) hU
      have hA3 : ∀ s ∈ srt ks, AmX H3 (amt kvs s) := fun s hs => fr3.am hx (by intro h; cases h) (hk.amX hA (srt_mem.mp hs))
      refine Evl.q_forT (xs := (srt ks).map V.str) (ev_fld (Evl.ev_var rfl) hx3 cls noG rfl) (Evl.st_of hg3) (fun i σ' H' => ∃ a4, σ' = [some (.ref x), some (.ref d), some u, a4] ∧ Evl.Ex H3 H' ∧ firstBad kvs (srt ks) = firstBad kvs ((srt ks).drop i)) (fun H4 e4 => ⟨none, rfl, e4, rfl⟩) (fun i σ' H' _ ⟨_, _, e, _⟩ => Evl.ex_t e (Evl.st_of hg3)) (fun i y σ' H' hy ⟨a4, es, ei, hb⟩ => ?_) (fun σ' H' ⟨a4, es, ei, hb⟩ => ?_)
      · subst es
        rw [List.getElem?_map] at hy
        obtain ⟨s, hs, rfl⟩ := Option.map_eq_some_iff.mp hy
        have hsm := List.mem_of_getElem? hs
        have hv := hk.amtV (srt_mem.mp hsm)
        rw [firstBad_drop hs] at hb
        have gv : ∀ {H4 : Hp}, Evl.Ex H3 H4 → Evl.Ev (tDGet (tVar 1) (tVar 3)) [some (.ref x), some (.ref d), some u, some (.str s)] H4 (amt kvs s) := fun {H4} e4 => ev_dgetK (Evl.ev_var rfl) (Evl.ev_var rfl) (e4 _ _ hd3) hv
        dsimp only [gName, List.set]
        refine Evl.s_when (b := !whole (amt kvs s) 0) (Evl.et_not (Evl.et_B (Evl.ev_call (z := .bl (whole (amt kvs s) 0)) (Evl.ea_cons (gv ei) (Evl.ea_cons Evl.ev_c Evl.ea_nil)) fun H4 e4 Q q E => ⟨_, _, rfl, ((hA3 s hsm).ex ei).ex e4, fun H5 e5 => q H5 e5⟩))) (fun hb2 H4 e4 => ?_) (fun hb2 H4 e4 => ?_)
        · rw [if_neg (by simpa using hb2)] at hb
          rw [hb] at hQ
          refine Evl.ea_cons (gv (ei.trans e4)) Evl.ea_nil H4 (Evl.Ex.refl _) _ fun H5 e5 => ?_
          exact mk1_at fun d' nd => hQ _ d' (((fr3.ex (ei.trans e4)).ex e5).ex (Evl.Ex.new nd)) upd_same
        · rw [if_pos (by simpa using hb2)] at hb
          exact ⟨_, rfl, ei.trans e4, hb⟩
      · subst es
        rw [List.length_map, List.drop_length] at hb
        have hb : firstBad kvs (srt ks) = none := hb
        rw [hb] at hQ
        refine Evl.q_when (b := !whole u 1) (Evl.et_not (Evl.et_B (Evl.ev_call (z := .bl (whole u 1)) (Evl.ea_cons (Evl.ev_var rfl) (Evl.ea_cons Evl.ev_c Evl.ea_nil)) fun H4 e4 Q q E => ⟨_, _, rfl, (hU3.ex ei).ex e4, fun H5 e5 => q H5 e5⟩))) (fun hb2 H4 e4 => ?_) (fun hb2 H4 e4 => ?_)
        · have hw : whole u 1 = false := by simpa using hb2
          simp only [hw, Bool.false_eq_true, if_false] at hQ
          refine Evl.ea_cons (Evl.ev_var rfl) Evl.ea_nil H4 (Evl.Ex.refl _) _ fun H5 e5 => ?_
          exact mk1_at fun d' nd => hQ _ d' (((fr3.ex (ei.trans e4)).ex e5).ex (Evl.Ex.new nd)) upd_same
        · have hw : whole u 1 = true := by simpa using hb2
          simp only [hw, if_true] at hQ
          have e34 := ei.trans e4
          have hx4 := e34 _ _ hx3
          have hg4 := e34 _ _ hg3
          have hd4 := e34 _ _ hd3
          have fr4 := fr3.ex e34
          clear e34 e4 ei hU3 hA3 hx3 hg3 hd3 fr3
          refine ⟨.ref x, rfl, x, CP, dx, _, .ref g, rfl, hx4, cls, noG, rfl, g, rfl, ⟨_, Evl.st_of hg4⟩, fun D nD => ?_⟩
          have nDx : D ≠ x := fun e => by
            rw [e, hx4] at nD
            cases nD
          refine dc_it (walk_tup (xs := (srt ks).map V.str)) (fun i H' => ∃ kvs2 ks2, H' D = some (.dK kvs2) ∧ KD kvs2 ks2 ∧ ks2.Nodup ∧ ks2.length ≤ i ∧ (∀ s, s ∈ ks2 ↔ s ∈ (srt ks).take i) ∧ (∀ s ∈ ks2, valV kvs2 (.inr s) = valV kvs (.inr s)) ∧ (∀ b o, H4 b = some o → H' b = some o))
            ⟨[], [], upd_same, rfl, List.nodup_nil, Nat.le_refl _, fun s => by simp, fun s hs => (by cases hs), fun b o hb => Evl.Ex.new nD _ _ hb⟩ (fun i H' hi h => ?_) (fun i y H' H'' hi h hy => ?_) (fun H' h => ?_)
          · obtain ⟨_, _, _, _, _, _, _, _, h8⟩ := h
            exact Evl.st_of (h8 _ _ hg4)
          · obtain ⟨kvs2, ks2, h1, h2, h3, h4, h5, h6, h8⟩ := h
            obtain ⟨rfl, hy⟩ := hy
            rw [List.length_map] at hi
            rw [List.getElem?_map] at hy
            obtain ⟨s, hs, rfl⟩ := Option.map_eq_some_iff.mp hy
            have hsm := srt_mem.mp (List.mem_of_getElem? hs)
            have hv := hk.amtV hsm
            rw [srt_len] at hi
            refine ⟨rfl, .str s, rfl, .ref d, rfl, .str s, rfl, d, amt kvs s, rfl, by rw [← hv]; exact DGet.k (k := .inr s) (h8 _ _ hd4), kvs2, .inr s, rfl, h1, Evl.sz_lt (by rw [h2.len]; omega), putK kvs2 (.inr s) (amt kvs s), addK ks2 s, upd_same, h2.put s _, addK_nd h3, Nat.le_trans addK_len (by omega), fun z => ?_, fun z hz => ?_, fun b o hb => ?_⟩
            · rw [addK_mem, h5, List.take_add_one, hs, List.mem_append]
              simp
            · rw [lookK]
              by_cases hzs : z = s
              · rw [if_pos (by rw [hzs]), hzs, hv]
              · rw [if_neg (fun e => hzs (Sum.inr.inj e))]
                rcases addK_mem.mp hz with hz | hz
                · exact h6 z hz
                · exact absurd hz hzs
            · rw [upd_ne (ne_of_none hb nD)]
              exact h8 b o hb
          · obtain ⟨kvs2, ks2, h1, h2, h3, h4, h5, h6, h8⟩ := h
            rw [List.length_map, List.take_length] at h5
            refine ⟨.ref x, rfl, x, CP, dx, _, rfl, h8 _ _ hx4, cls, noA, by show (1 : Nat) < 1000; omega, ?_⟩
            refine ⟨u, rfl, .ref x, rfl, x, CP, dx, _, rfl, upd_same, cls, noU, by show (2 : Nat) < 1000; omega, ?_⟩
            have h8' : FrX x H H' := fun b o hb hn => h8 _ _ (fr4 b o hb hn)
            refine hQ _ g D kvs2 h8'.put.put ngH (fr4.back nD hx4) ?_ ?_ ?_ ⟨ks2, h2, h3, fun s => by rw [h5, srt_mem], fun s hs => h6 s ((h5 s).mpr (srt_mem.mpr hs))⟩
            · rw [upd_same]
              rfl
            · rw [upd_ne ngx, upd_ne ngx]
              exact h8 _ _ hg4
            · rw [upd_ne nDx, upd_ne nDx]
              exact h1
end
end Lw

namespace Lw
open PySem PySem.Spec PyProof.Rows L2
/-- a value: a tuple of data | something else -/
def Thing (K : PySem.W.Frag) (H : Hp) (v : V) : Option (List PyData) → Prop
  | some ds => ∃ a xs, v = .ref a ∧ H a = some (.tup xs) ∧ DpAll K H xs ds ∧ GoodD 4 (.tuple ds)
  | none => ∃ t, TyX K H v (.type t) ∧ PySem.W.kitOne K (.type t) (.type "tuple") = some false
def isB (ws : List Str) (ds : List PyData) : Bool := PyData.eqv (.tuple ds) (.tuple ((ws.filter fun w => ds.any fun z => PyData.eqv z (.str w)).map PyData.str))
def isRes (ws : List Str) : Option (List PyData) → Bool
  | some ds => isB ws ds
  | none => false
def sp_isb (K : PySem.W.Frag) : Sp := fun vs H Q _ => ∃ (g : Addr) (v : V) (ws : List Str) (r : Option (List PyData)), vs = [.ref g, v] ∧ SqT K H g (ws.map V.str) ∧ TxtOk ws ∧ ws.length ≤ 5 ∧ Thing K H v r ∧ ∀ H', Evl.Ex H H' → Q (.bl (isRes ws r)) H'
theorem dpall_ex {K : PySem.W.Frag} {H H' : Hp} (e : Evl.Ex H H') : ∀ {vs : List V} {ds : List PyData}, DpAll K H vs ds → DpAll K H' vs ds
  | [], [], .nil => .nil
  | _ :: _, _ :: _, .cons h t => .cons (dp_ex e _ _ h) (dpall_ex e t)
theorem good_items {n : Nat} {ds : List PyData} (h : GoodD (n + 1) (.tuple ds)) : GoodD (n + 1) (.list ds) := by
  obtain ⟨h1, h2⟩ := h
  exact ⟨by simpa [PyData.canLay0] using h1, by simpa [PyData.depth] using h2⟩
abbrev s_is_bundle : Stmt := topS 18
abbrev n_is_bundle : List Str := ["goods", "value", "good"]
theorem sc_is_bundle : FnScope n_is_bundle ["goods", "value"] (defScope s_is_bundle) := ⟨rfl, rfl, rfl, by decide +kernel, rfl, by decide +kernel, by decide +kernel⟩
section
variable {P : Program} {w : World} {K : PySem.W.Frag} {mg : Str → Option Value} {base : Heap}
theorem ok_isb {f : Addr} {fd : FuncData} {k : Nat} (F : Fun K "is_bundle" "is_bundle" s_is_bundle f fd) (m_isinstance : mg "isinstance" = none) (m_tuple : mg "tuple" = none) : FnOk P w K mg base CX0 (k + 1) f fd ["goods", "value"] (sp_isb K) := by
  refine F.ok sc_is_bundle (fun vs H Q E h => ?_) (fun cdv A outer s H vs Q E hr h => ?_)
  · obtain ⟨g, v, ws, r, rfl, _⟩ := h
    rfl
  · obtain ⟨g, v, ws, r, rfl, hS, hT, hL, hv, hQ⟩ := h
    refine ⟨_, (pss_cons (ps_if (pt_not (pt_val (pe_callB call_isi (by rfl) m_isinstance PyProof.Rows.boot_isinstance (pa_cons (pv 1) (pa_cons (pe_bltn (v := .ty "tuple") (by rfl) m_tuple (by decide +kernel) rfl) pa_nil)))))
   (pss_one (ps_ret pe_bl))
   pss_nil)
  (pss_one (ps_ret (pe_cmpR (op_eqD hr.units) (pv 1) (pe_callTy call_tuple_of (by rfl) m_tuple (by decide +kernel) (pa_cons (pe_lc (own := [("good", 2)]) (g := gName 2) (by rfl) sc_is_bundle.nd (pi_tup (pv 0)) (blkOk_by (own := [("good", 2)]) (N := n_is_bundle) (sc := defScope s_is_bundle) (by decide +kernel)) (fun _ _ _ _ _ => pg_name (i := 2) sc_is_bundle.nd rfl (by first | exact .inl rfl | exact .inr rfl)) (fun _ _ _ _ _ => (pts_one (pt_cmpR (k_inD K (room65 hr)) (pv 2) (pv 1) (by with_unfolding_all rfl)))) (fun _ _ _ _ _ => (pv 2))) pa_nil)) (nomark _))))), ?_⟩
    cases r with
    | none =>
      obtain ⟨t, ty, hk⟩ := hv
      refine ⟨v, rfl, v, .ty "tuple", .type t, .type "tuple", false, rfl, .ty _, ty, hk, false, rfl, ?_⟩
      exact hQ H (Evl.Ex.refl H)
    | some ds =>
      obtain ⟨a, xs, rfl, ha, hd, hg⟩ := hv
      refine ⟨.ref a, rfl, .ref a, .ty "tuple", .type "tuple", .type "tuple", true, rfl, .ty _, .base (.tup ha), kit_ty (by decide +kernel), true, rfl, ?_⟩
      have hgl := good_items hg
      have key : Evl.EvL (tLc (iTup K (tVar 0)) (gName 2) (tTest (tOp (rInDS K false) (tVar 2) (tVar 1))) (tVar 2) [2]) (start n_is_bundle [.ref g, .ref a]) H ((ws.filter fun z => ds.any fun y => PyData.eqv y (.str z)).map V.str) :=
        el_lcT (p := fun z => ds.any fun y => PyData.eqv y (.str z)) (g := V.str) (Evl.ev_var rfl) hS (by omega) (fun _ => rfl) (fun z H1 e1 hz => Evl.et_test (Evl.ev_op (Evl.ev_var rfl) (Evl.ev_var rfl) fun H2 e2 Q q => ⟨.str z, ds, .str z, .inr (.tup (Evl.st_of ((e1.trans e2) _ _ ha)) (dpall_ex (e1.trans e2) hd)), (good_str (n := 1) (hT z hz).2).shaped (by decide), hgl.shaped (by decide), q H2 (Evl.Ex.refl _)⟩)) (fun z H1 e1 hz _ => Evl.ev_var rfl)
      have hf : ∀ z ∈ (ws.filter fun z => ds.any fun y => PyData.eqv y (.str z)), SOk z := fun z hz => (hT z (List.mem_filter.mp hz).1).2
      simp only [Bool.not_true, Bool.false_eq_true, if_false, tNext]
      exact Evl.s_ret (v := .bl (isB ws ds)) (Evl.ev_opU (Evl.ev_var rfl) (eu_tupof key) fun p H1 hp e1 => rv_eqD (d := .tuple ds) (fun H2 e2 => .tup (Evl.st_of ((e1.trans e2) _ _ ha)) (dpall_ex (e1.trans e2) hd)) (fun H2 e2 => dp_strsT (Evl.st_of (e2 _ _ hp))) (hg.shaped (by decide)) ((good_strsT hf).shaped (by decide))) fun H1 e1 => hQ H1 e1
end
end Lw

namespace Lw
open PySem PySem.Spec PyProof.Rows L2
abbrev s_iUnknownName : Stmt := inClass (topS 4) 0
abbrev n_iUnknownName : List Str := ["self", "name"]
theorem sc_iUnknownName : FnScope n_iUnknownName ["self", "name"] (defScope s_iUnknownName) := ⟨rfl, rfl, rfl, by decide +kernel, rfl, by decide +kernel, by decide +kernel⟩
theorem ok_iUnknownName {P : Program} {w : World} {K : PySem.W.Frag} {mg : Str → Option Value} {base : Heap} {f : Addr} {fd : FuncData} {C : Addr} (F : Fun K "__init__" "UnknownName.__init__" s_iUnknownName f fd) (O : OexC K C) (no : PySem.W.findIn K (.ref C) "name" = some none) : FnOk P w K mg base CX0 1 f fd ["self", "name"] (sp_init1 K C "name") := by
  refine F.ok sc_iUnknownName (fun vs H Q E h => ?_) (fun cdv A outer s H vs Q E hr h => ⟨_, pss_one (ps_ost (pv 0) (pv 1)), ?_⟩)
  · obtain ⟨a, y, rfl, _⟩ := h
    rfl
  · obtain ⟨a, y, rfl, ha, hQ⟩ := h
    exact ⟨y, rfl, .ref a, rfl, a, C, rfl, O, no, .inl ⟨ha, hQ⟩⟩
abbrev s_iBadBundle : Stmt := inClass (topS 6) 0
abbrev n_iBadBundle : List Str := ["self", "value"]
theorem sc_iBadBundle : FnScope n_iBadBundle ["self", "value"] (defScope s_iBadBundle) := ⟨rfl, rfl, rfl, by decide +kernel, rfl, by decide +kernel, by decide +kernel⟩
theorem ok_iBadBundle {P : Program} {w : World} {K : PySem.W.Frag} {mg : Str → Option Value} {base : Heap} {f : Addr} {fd : FuncData} {C : Addr} (F : Fun K "__init__" "BadBundle.__init__" s_iBadBundle f fd) (O : OexC K C) (no : PySem.W.findIn K (.ref C) "value" = some none) : FnOk P w K mg base CX0 1 f fd ["self", "value"] (sp_init1 K C "value") := by
  refine F.ok sc_iBadBundle (fun vs H Q E h => ?_) (fun cdv A outer s H vs Q E hr h => ⟨_, pss_one (ps_ost (pv 0) (pv 1)), ?_⟩)
  · obtain ⟨a, y, rfl, _⟩ := h
    rfl
  · obtain ⟨a, y, rfl, ha, hQ⟩ := h
    exact ⟨y, rfl, .ref a, rfl, a, C, rfl, O, no, .inl ⟨ha, hQ⟩⟩
theorem all_pos (n : Nat) (hn : n < 6) : 0 < (allI n).length := by
  have := upto (P := fun n => decide (0 < (allI n).length)) 6 (by decide +kernel) n hn
  exact of_decide_eq_true this
theorem any_strs (ss : List Str) (z : Str) : ((ss.map PyData.str).any fun y => PyData.eqv y (.str z)) = decide (z ∈ ss) := by
  induction ss with
  | nil => rfl
  | cons y r ih =>
    rw [List.map_cons, List.any_cons, ih, Bool.eq_iff_iff, Bool.or_eq_true, decide_eq_true_iff, decide_eq_true_iff, List.mem_cons]
    have e := eqv_strs [y] [z]
    simp only [List.map_cons, List.map_nil, PyData.eqv, PyData.eqvAll, Bool.and_true] at e ⊢
    rw [e]
    simp [eq_comm]
theorem isB_bag {ws : List Str} (hI : Inc ws) (hn : ws.length < 6) {b : List Nat} (hb : b ∈ allI ws.length) : isB ws ((bagI ws b).map PyData.str) = true := by
  have hin := (all_in ws.length hn b hb).2
  have hf : (ws.filter fun z => ((bagI ws b).map PyData.str).any fun y => PyData.eqv y (.str z)) = bagI ws b := by
    simp only [any_strs]
    have e1 : ws.filter (fun z => decide (z ∈ bagI ws b)) = ((List.range ws.length).map (fI ws)).filter (fun z => decide (z ∈ bagI ws b)) := by
      rw [← ws_eq ws]
    rw [e1, List.filter_map]
    have e2 : (List.range ws.length).filter ((fun z => decide (z ∈ bagI ws b)) ∘ fI ws) = (List.range ws.length).filter fun i => decide (i ∈ b) := by
      refine List.filter_congr fun i hi => ?_
      have hi' := List.mem_range.mp hi
      show decide (fI ws i ∈ bagI ws b) = decide (i ∈ b)
      refine decide_eq_decide.mpr ⟨fun h => ?_, fun h => List.mem_map_of_mem h⟩
      obtain ⟨j, hj, e⟩ := List.mem_map.mp h
      rw [← inc_inj hI (hin j hj) hi' e]
      exact hj
    rw [e2, all_self ws.length hn b hb]
    rfl
  unfold isB
  rw [hf, eqv_strsT, decide_eq_true rfl]
theorem isB_few {ws : List Str} {k : Nat} : isB (ws.take k) (ws.map PyData.str) = decide (ws = ws.take k) := by
  have hf : ((ws.take k).filter fun z => (ws.map PyData.str).any fun y => PyData.eqv y (.str z)) = ws.take k := by
    simp only [any_strs]
    rw [List.filter_eq_self]
    exact fun z hz => decide_eq_true (List.mem_of_mem_take hz)
  unfold isB
  rw [hf, eqv_strsT]
theorem tyx_ex {K : PySem.W.Frag} {H H' : Hp} {v : V} {t : Value} (e : Evl.Ex H H') (h : TyX K H v t) : TyX K H' v t := by
  cases h with
  | base h =>
    cases h with
    | non => exact .base .non
    | bl x => exact .base (.bl x)
    | int i => exact .base (.int i)
    | str x => exact .base (.str x)
    | flt x => exact .base (.flt x)
    | lst h => exact .base (.lst (e _ _ h))
    | frz h => exact .base (.frz (e _ _ h))
    | tup h => exact .base (.tup (e _ _ h))
    | dK h => exact .base (.dK (e _ _ h))
    | dT h => exact .base (.dT (e _ _ h))
    | ins h c1 c2 c3 c4 c5 => exact .base (.ins (e _ _ h) c1 c2 c3 c4 c5)
  | byt b => exact .byt b
  | set h => exact .set (e _ _ h)
  | kList h c => exact .kList h c
  | kTuple h c => exact .kTuple h c
  | kDict h c => exact .kDict h c
  | fTuple h => exact .fTuple (e _ _ h)
  | fDict h => exact .fDict (e _ _ h)

theorem thing_ex {K : PySem.W.Frag} {H H' : Hp} {v : V} {r : Option (List PyData)} (e : Evl.Ex H H') (h : Thing K H v r) : Thing K H' v r := by
  cases r with
  | none =>
    obtain ⟨t, h1, h2⟩ := h
    exact ⟨t, tyx_ex e h1, h2⟩
  | some ds =>
    obtain ⟨a, xs, h1, h2, h3, h4⟩ := h
    exact ⟨a, xs, h1, e _ _ h2, dpall_ex e h3, h4⟩
/-- prices -/
def PrAt (CP x : Addr) (kvs : List (Key × V)) (ks : List Str) (u : V) (H : Hp) : Prop := ∃ dx g m kvs2, H x = some (.ins CP dx (prF g m u)) ∧ H g = some (.tup ((srt ks).map V.str)) ∧ H m = some (.dK kvs2) ∧ SameD kvs2 kvs ks
theorem PrAt.ex {CP x : Addr} {kvs : List (Key × V)} {ks : List Str} {u : V} {H H' : Hp} (h : PrAt CP x kvs ks u H) (e : Evl.Ex H H') : PrAt CP x kvs ks u H' := by
  obtain ⟨dx, g, m, kvs2, h1, h2, h3, h4⟩ := h
  exact ⟨dx, g, m, kvs2, e _ _ h1, e _ _ h2, e _ _ h3, h4⟩
def toI (v : V) : Int := match v with
  | .int i => i
  | _ => 0
def sumI (kvs : List (Key × V)) (b : List Str) : Int := (b.map fun s => toI (amt kvs s)).sum
def sp_geti (CP CN : Addr) : Sp := fun vs H Q E => ∃ (x : Addr) (s : Str) (kvs : List (Key × V)) (ks : List Str) (u : V), vs = [.ref x, .str s] ∧ PrAt CP x kvs ks u H ∧ KD kvs ks ∧ (s ∈ ks → ∀ H1, Evl.Ex H H1 → Q (amt kvs s) H1) ∧ (s ∉ ks → ∀ H1 d, Evl.Ex H H1 → H1 d = some (.xd [("name", .str s)]) → E (.ref CN) (some d) H1)
def sp_amounts (CP : Addr) : Sp := fun vs H Q _ => ∃ (x : Addr) (kvs : List (Key × V)) (ks : List Str) (u : V), vs = [.ref x] ∧ PrAt CP x kvs ks u H ∧ ∀ p kvs2 H1, Evl.Ex H H1 → H p = none → H1 p = some (.dK kvs2) → SameD kvs2 kvs ks → Q (.ref p) H1
def sp_total (K : PySem.W.Frag) (CP CB : Addr) : Sp := fun vs H Q E => ∃ (x : Addr) (v : V) (kvs : List (Key × V)) (ks : List Str) (u : V), vs = [.ref x, v] ∧ PrAt CP x kvs ks u H ∧ KD kvs ks ∧ TxtOk ks ∧ ks.length ≤ 5 ∧
  ((∃ a b, v = .ref a ∧ H a = some (.tup (b.map V.str)) ∧ isB (srt ks) (b.map PyData.str) = true ∧ (∀ s ∈ b, s ∈ ks) ∧ b.length ≤ 5 ∧ (∀ s ∈ ks, ∃ i, amt kvs s = .int i) ∧ ∀ H1, Evl.Ex H H1 → Q (.int (sumI kvs b)) H1) ∨
   (∃ r, Thing K H v r ∧ isRes (srt ks) r = false ∧ ∀ H1 d, Evl.Ex H H1 → H1 d = some (.xd [("value", v)]) → E (.ref CB) (some d) H1))
theorem dp_strsTup {K : PySem.W.Frag} {H : Hp} {b : List Str} : DpAll K H (b.map V.str) (b.map PyData.str) := by
  induction b with
  | nil => exact .nil
  | cons s r ih => exact .cons (.str s) ih
theorem SameD.am {kvs2 kvs : List (Key × V)} {ks : List Str} (h : SameD kvs2 kvs ks) (hk : KD kvs ks) {s : Str} (hs : s ∈ ks) : valV kvs2 (.inr s) = some (amt kvs s) := by
  obtain ⟨_, _, _, _, h4⟩ := h
  rw [h4 s hs]
  exact hk.amtV hs
abbrev s_Prices_goods : Stmt := inClass (topS 22) 1
abbrev n_Prices_goods : List Str := ["self"]
theorem sc_Prices_goods : FnScope n_Prices_goods ["self"] (defScope s_Prices_goods) := ⟨rfl, rfl, rfl, by decide +kernel, rfl, by decide +kernel, by decide +kernel⟩
abbrev s_Prices_unit : Stmt := inClass (topS 22) 2
abbrev n_Prices_unit : List Str := ["self"]
theorem sc_Prices_unit : FnScope n_Prices_unit ["self"] (defScope s_Prices_unit) := ⟨rfl, rfl, rfl, by decide +kernel, rfl, by decide +kernel, by decide +kernel⟩
abbrev s_Prices_getitem : Stmt := inClass (topS 22) 3
abbrev n_Prices_getitem : List Str := ["self", "good"]
theorem sc_Prices_getitem : FnScope n_Prices_getitem ["self", "good"] (defScope s_Prices_getitem) := ⟨rfl, rfl, rfl, by decide +kernel, rfl, by decide +kernel, by decide +kernel⟩
abbrev s_Prices_amounts : Stmt := inClass (topS 22) 6
abbrev n_Prices_amounts : List Str := ["self"]
theorem sc_Prices_amounts : FnScope n_Prices_amounts ["self"] (defScope s_Prices_amounts) := ⟨rfl, rfl, rfl, by decide +kernel, rfl, by decide +kernel, by decide +kernel⟩
abbrev s_Prices_total : Stmt := inClass (topS 22) 7
abbrev n_Prices_total : List Str := ["self", "bundle", "good"]
theorem sc_Prices_total : FnScope n_Prices_total ["self", "bundle"] (defScope s_Prices_total) := ⟨rfl, rfl, rfl, by decide +kernel, rfl, by decide +kernel, by decide +kernel⟩
section
variable {P : Program} {w : World} {K : PySem.W.Frag} {mg : Str → Option Value} {base : Heap}
theorem ok_goodsP {f CP : Addr} {fd : FuncData} {k : Nat} (F : Fun K "goods" "Prices.goods" s_Prices_goods f fd) (cls : Cls K CP) (noG : NoAttr K CP "_goods") : FnOk P w K mg base CX0 (k + 1) f fd ["self"] (getSp CP "_goods") := by
  refine F.ok sc_Prices_goods (fun vs H Q E h => ?_) (fun cdv A outer s H vs Q E hr h => ?_)
  · obtain ⟨a, dx, fs, v, rfl, _⟩ := h
    rfl
  · obtain ⟨a, dx, fs, v, rfl, ha, hl, hQ⟩ := h
    refine ⟨_, (pss_one (ps_ret (pe_fld (pv 0) rfl))), ?_⟩
    exact ⟨.ref a, rfl, a, CP, dx, fs, v, rfl, ha, cls, noG, hl, hQ⟩
theorem ok_unitP {f CP : Addr} {fd : FuncData} {k : Nat} (F : Fun K "unit" "Prices.unit" s_Prices_unit f fd) (cls : Cls K CP) (noU : NoAttr K CP "_unit") : FnOk P w K mg base CX0 (k + 1) f fd ["self"] (getSp CP "_unit") := by
  refine F.ok sc_Prices_unit (fun vs H Q E h => ?_) (fun cdv A outer s H vs Q E hr h => ?_)
  · obtain ⟨a, dx, fs, v, rfl, _⟩ := h
    rfl
  · obtain ⟨a, dx, fs, v, rfl, ha, hl, hQ⟩ := h
    refine ⟨_, (pss_one (ps_ret (pe_fld (pv 0) rfl))), ?_⟩
    exact ⟨.ref a, rfl, a, CP, dx, fs, v, rfl, ha, cls, noU, hl, hQ⟩
theorem ok_amounts {f CP : Addr} {fd : FuncData} {k : Nat} (F : Fun K "amounts" "Prices.amounts" s_Prices_amounts f fd) (cls : Cls K CP) (noA : NoAttr K CP "_amounts") (m_dict : mg "dict" = none) : FnOk P w K mg base CX0 (k + 1) f fd ["self"] (sp_amounts CP) := by
  refine F.ok sc_Prices_amounts (fun vs H Q E h => ?_) (fun cdv A outer s H vs Q E hr h => ?_)
  · obtain ⟨x, kvs, ks, u, rfl, _⟩ := h
    rfl
  · obtain ⟨x, kvs, ks, u, rfl, ⟨dx, g, m, kvs2, h1, h2, h3, h4⟩, hQ⟩ := h
    refine ⟨_, (pss_one (ps_ret (pe_callTy call_dictD (by rfl) m_dict (by decide +kernel) (pa_cons (pe_fld (pv 0) rfl) pa_nil)))), ?_⟩
    exact ⟨.ref x, rfl, x, CP, dx, _, .ref m, rfl, h1, cls, noA, rfl, m, kvs2, rfl, .inl h3, fun p np => hQ p kvs2 _ (Evl.Ex.new np) np upd_same h4⟩
theorem ok_geti {f CP CN fN : Addr} {fd fdN : FuncData} (F : Fun K "__getitem__" "Prices.__getitem__" s_Prices_getitem f fd) (cls : Cls K CP) (noG : NoAttr K CP "_goods") (noA : NoAttr K CP "_amounts")
    (EN : ErC P w K mg base "UnknownName" "name" CN fN fdN) : FnOk P w K mg base (L2.CX P w) 3 f fd ["self", "good"] (sp_geti CP CN) := by
  refine F.okX sc_Prices_getitem (fun vs H Q E h => ?_) (fun cdv A outer s H vs Q E hr h => ?_)
  · obtain ⟨x, s, kvs, ks, u, rfl, _⟩ := h
    rfl
  · obtain ⟨x, z, kvs, ks, u, rfl, ⟨dx, g, m, kvs2, h1, h2, h3, h4⟩, hk, hQ, hE⟩ := h
    have O_UnknownName := EN.O
    have i_UnknownName := EN.i
    have t_UnknownName := EN.t
    have G_iUnknownName := EN.G
    have b_iUnknownName := EN.b
    have g_UnknownName := EN.g
    refine ⟨_, (pss_cons (ps_if (pt_cmpR op_notIn_seq (pv 1) (pe_fld (pv 0) rfl) (by with_unfolding_all rfl))
   (pss_one (ps_raise rfl (takes_of rfl rfl rfl rfl) (pmk_oex O_UnknownName i_UnknownName t_UnknownName G_iUnknownName (hr.mono (by decide)) b_iUnknownName .nil pass0 (by rfl) g_UnknownName (pa_cons (pv 1) pa_nil))))
   pss_nil)
  (pss_one (ps_ret (pe_dget (hu_of hr) (pe_fld (pv 0) rfl) (pv 1) (fun _ _ => rfl))))), ?_⟩
    refine Evl.q_when (b := !decide (z ∈ srt ks)) (Evl.et_test (Evl.ev_is (Evl.ev_op (Evl.ev_var rfl) (ev_fld (Evl.ev_var rfl) h1 cls noG rfl) (Evl.rv_niT (Evl.st_of h2) rfl (flat_strs _))) (by rw [inV_strs]))) (fun hb H1 e1 => ?_) (fun hb H1 e1 => ?_)
    · have hn : z ∉ ks := fun h => by
        rw [decide_eq_true (srt_mem.mpr h)] at hb
        cases hb
      refine Evl.ea_cons (Evl.ev_var rfl) Evl.ea_nil H1 (Evl.Ex.refl _) _ fun H2 e2 => ?_
      exact mk1_at fun d nd => hE hn _ d ((e1.trans e2).trans (Evl.Ex.new nd)) upd_same
    · have hm : z ∈ ks := srt_mem.mp (by simpa using hb)
      exact Evl.s_ret (ev_dgetK (ev_fld (Evl.ev_var rfl) (e1 _ _ h1) cls noA rfl) (Evl.ev_var rfl) (e1 _ _ h3) (h4.am hk hm)) fun H2 e2 => hQ hm H2 (e1.trans e2)
theorem ok_total {f CP CB fB f2 : Addr} {fd fdB fd2 : FuncData} (F : Fun K "total" "Prices.total" s_Prices_total f fd) (cls : Cls K CP) (noG : NoAttr K CP "_goods") (noA : NoAttr K CP "_amounts")
    (EB : ErC P w K mg base "BadBundle" "value" CB fB fdB)
    (F_is_bundle : Fun K "is_bundle" "is_bundle" s_is_bundle f2 fd2) (b_is_bundle : Binds K fd2 ["goods", "value"] []) (g_is_bundle : mg "is_bundle" = some (.ref f2)) (G_is_bundle : FnOk P w K mg base CX0 1 f2 fd2 ["goods", "value"] (sp_isb K))
    (m_sum : mg "sum" = none) : FnOk P w K mg base (L2.CX P w) 3 f fd ["self", "bundle"] (sp_total K CP CB) := by
  refine F.okX sc_Prices_total (fun vs H Q E h => ?_) (fun cdv A outer s H vs Q E hr h => ?_)
  · obtain ⟨x, v, kvs, ks, u, rfl, _⟩ := h
    rfl
  · obtain ⟨x, v, kvs, ks, u, rfl, ⟨dx, g, m, kvs2, h1, h2, h3, h4⟩, hk, hT, hl, hor⟩ := h
    have O_BadBundle := EB.O
    have i_BadBundle := EB.i
    have t_BadBundle := EB.t
    have G_iBadBundle := EB.G
    have b_iBadBundle := EB.b
    have g_BadBundle := EB.g
    refine ⟨_, (pss_cons (ps_if (pt_not (pt_val (pe_call G_is_bundle (hr.mono (by decide)) (by rfl) g_is_bundle F_is_bundle.kp b_is_bundle .nil pass0 (pa_cons (pe_fld (pv 0) rfl) (pa_cons (pv 1) pa_nil)))))
   (pss_one (ps_raise rfl (takes_of rfl rfl rfl rfl) (pmk_oex O_BadBundle i_BadBundle t_BadBundle G_iBadBundle (hr.mono (by decide)) b_iBadBundle .nil pass0 (by rfl) g_BadBundle (pa_cons (pv 1) pa_nil))))
   pss_nil)
  (pss_one (ps_ret (pe_callB (cr_sum rfl) (by rfl) m_sum (by decide +kernel) (pa_cons (pe_lc (own := [("good", 2)]) (g := gName 2) (by rfl) sc_Prices_total.nd (pi_tup (pv 1)) (blkOk_by (own := [("good", 2)]) (N := n_Prices_total) (sc := defScope s_Prices_total) (by decide +kernel)) (fun _ _ _ _ _ => pg_name (i := 2) sc_Prices_total.nd rfl (by first | exact .inl rfl | exact .inr rfl)) (fun _ _ _ _ _ => pts_nil) (fun _ _ _ _ _ => (pe_dget (hu_of hr) (k_fld K (pv 0) rfl) (pv 2) (fun _ _ => rfl)))) pa_nil))))), ?_⟩
    have isb : ∀ {r : Option (List PyData)}, Thing K H v r → Evl.EvT (tNot (tB (tCall (sp_isb K) [] E0 (tCons (tFld K (tVar 0) "_goods") (tCons (tVar 1) tNil))))) (start n_Prices_total [.ref x, v]) H (!isRes (srt ks) r) := fun {r} hv =>
      Evl.et_not (Evl.et_B (Evl.ev_call (z := .bl (isRes (srt ks) r)) (Evl.ea_cons (ev_fld (Evl.ev_var rfl) h1 cls noG rfl) (Evl.ea_cons (Evl.ev_var rfl) Evl.ea_nil)) fun H2 e2 Q q E => ⟨g, v, srt ks, r, rfl, Evl.ex_t e2 (Evl.st_of h2), srt_ok hT, by rw [srt_len]; exact hl, thing_ex e2 hv, fun H3 e3 => q H3 e3⟩))
    rcases hor with ⟨a, b, rfl, ha, hb, hbs, hb5, hi, hQ⟩ | ⟨r, hv, hr0, hE⟩
    · have hth : Thing K H (.ref a) (some (b.map PyData.str)) := ⟨a, _, rfl, ha, dp_strsTup, (good_strsT fun z hz => (hT z (hbs z hz)).2).mono (by decide)⟩
      refine Evl.q_when (b := false) (Evl.et_is (isb hth) (by rw [isRes, hb]; rfl)) (fun h => by cases h) (fun _ H1 e1 => ?_)
      refine Evl.s_ret (v := .int (sumI kvs b)) (ev_cbL (el_lcT (xs := b) (cv := V.str) (p := fun _ => true) (g := fun s => V.int (toI (amt kvs s))) (Evl.ev_var rfl) (Evl.ex_t e1 (Evl.st_of ha)) (by omega) (fun _ => rfl) (fun _ _ _ _ => et_yes) (fun s H2 e2 hs _ => ?_)) (fun p H2 hp e2 H3 e3 Q q => ⟨p, b.map fun s => toI (amt kvs s), rfl, ?_, q H3 (Evl.Ex.refl _)⟩)) fun H2 e2 => hQ H2 (e1.trans e2)
      · obtain ⟨i, hi⟩ := hi s (hbs s hs)
        have hv := h4.am hk (hbs s hs)
        show Evl.Ev _ _ _ (V.int (toI (amt kvs s)))
        rw [hi] at hv ⊢
        exact ev_dgetK (ev_fld (Evl.ev_var rfl) ((e1.trans e2) _ _ h1) cls noA rfl) (Evl.ev_var rfl) ((e1.trans e2) _ _ h3) hv
      · rw [List.filter_eq_self.mpr fun _ _ => rfl] at hp
        rw [List.map_map]
        exact Evl.sq_of (e3 _ _ hp)
    · refine Evl.q_when (b := true) (Evl.et_is (isb hv) (by rw [hr0]; rfl)) (fun _ H1 e1 => ?_) (fun h => by cases h)
      refine Evl.ea_cons (Evl.ev_var rfl) Evl.ea_nil H1 (Evl.Ex.refl _) _ fun H2 e2 => ?_
      exact mk1_at fun d nd => hE _ d ((e1.trans e2).trans (Evl.Ex.new nd)) upd_same
end
end Lw

namespace Lw
open PySem PySem.Spec PyProof.Rows L2
structure InsC (K : PySem.W.Frag) (C : Addr) : Prop where
  ha : PySem.W.findIn K (.ref C) "__class__" = some (some (.builtin "object.__class__"))
  hn : PySem.W.specialIn K (.builtin "object.__class__") "__get__" = some (some (.builtin "getset_descriptor.__get__"))
  tk : PySem.W.takesIn K (.builtin "object.__class__") = some true
  hm : PySem.W.mroIn K C (.type "object") = some true
  kit : PySem.W.kitOne K (.ref C) (.ref C) = some true
def Sml (kvs : List (Key × V)) (ks : List Str) : Prop := ∀ s ∈ ks, ∃ i, amt kvs s = .int i ∧ -(2 ^ 64) < i ∧ i < 2 ^ 64
def eqPr (kvs : List (Key × V)) (ks : List Str) (ui : Int) (kvs' : List (Key × V)) (ks' : List Str) (uj : Int) : Bool := decide (srt ks = srt ks') && (srt ks).all fun s => toI (amt kvs s) * uj == toI (amt kvs' s) * ui
def sp_peqP (CP : Addr) : Sp := fun vs H Q _ => ∃ (x y : Addr) (kvs kvs' : List (Key × V)) (ks ks' : List Str) (ui uj : Int), vs = [.ref x, .ref y] ∧ PrAt CP x kvs ks (.int ui) H ∧ PrAt CP y kvs' ks' (.int uj) H ∧ KD kvs ks ∧ KD kvs' ks' ∧ TxtOk ks ∧ TxtOk ks' ∧ ks.length ≤ 5 ∧ ks'.length ≤ 5 ∧ Sml kvs ks ∧ Sml kvs' ks' ∧ ∀ H1, Evl.Ex H H1 → Q (.bl (eqPr kvs ks ui kvs' ks' uj)) H1
/-- the other is of a built-in kind -/
def sp_peqF (K : PySem.W.Frag) (CP : Addr) : Sp := fun vs H Q _ => ∃ (x : Addr) (v : V) (T : String), vs = [.ref x, v] ∧ Fgn H v T ∧ PySem.W.kitOne K (.type T) (.ref CP) = some false ∧ ∀ H1, Evl.Ex H H1 → Q (.bl false) H1
def sp_peq (K : PySem.W.Frag) (CP : Addr) : Sp := fun vs H Q E => sp_peqP CP vs H Q E ∨ sp_peqF K CP vs H Q E
theorem eqv_ints : ∀ (a b : List Int), PyData.eqv (.list (a.map .int)) (.list (b.map .int)) = decide (a = b)
  | [], [] => rfl
  | [], _ :: _ => rfl
  | _ :: _, [] => rfl
  | x :: r, y :: t => by
    have ih := eqv_ints r t
    simp only [List.map_cons, PyData.eqv, PyData.eqvAll] at ih ⊢
    rw [ih, Bool.eq_iff_iff]
    simp
abbrev s_Prices_eq : Stmt := inClass (topS 22) 5
abbrev n_Prices_eq : List Str := ["self", "other", "ours", "good", "theirs"]
theorem sc_Prices_eq : FnScope n_Prices_eq ["self", "other"] (defScope s_Prices_eq) := ⟨rfl, rfl, rfl, by decide +kernel, rfl, by decide +kernel, by decide +kernel⟩
section
variable {P : Program} {w : World} {K : PySem.W.Frag} {mg : Str → Option Value} {base : Heap}
theorem ok_peq {f CP : Addr} {fd : FuncData} {k : Nat} (F : Fun K "__eq__" "Prices.__eq__" s_Prices_eq f fd) (cls : Cls K CP) (ins : InsC K CP) (noG : NoAttr K CP "_goods") (noA : NoAttr K CP "_amounts") (noU : NoAttr K CP "_unit")
    (g_Prices : mg "Prices" = some (.ref CP)) (m_isinstance : mg "isinstance" = none) : FnOk P w K mg base CX0 (k + 1) f fd ["self", "other"] (sp_peq K CP) := by
  refine F.ok sc_Prices_eq (fun vs H Q E h => ?_) (fun cdv A outer s H vs Q E hr h => ?_)
  · rcases h with ⟨x, y, kvs, kvs', ks, ks', ui, uj, rfl, _⟩ | ⟨x, v, T, rfl, _⟩ <;> rfl
  · rcases h with h | ⟨x, v, T, rfl, hty, hki, hQ⟩
    case inr =>
      refine ⟨_, (pss_cons (ps_if (PW.pt (pw_or (pt_not (pt_val (pe_callB call_isi (by rfl) m_isinstance PyProof.Rows.boot_isinstance (pa_cons (pv 1) (pa_cons (pe_cls (by rfl) g_Prices) pa_nil))))) (pw_or1 (pt_cmpR (op_neD hr.units) (pe_fld (pv 0) rfl) (pe_fld (pv 1) rfl) (nomark _)))))
   (pss_one (ps_ret pe_bl))
   pss_nil)
  (pss_cons (ps_setLc (i := 2) (own := [("good", 3)]) (g := gName 3) (by rfl) sc_Prices_eq.nd rfl rfl (sw_true rfl rfl rfl (by decide +kernel)) (pi_tup (pe_fld (pv 0) rfl)) (blkOk_by (own := [("good", 3)]) (N := n_Prices_eq) (sc := defScope s_Prices_eq) (by decide +kernel)) (fun _ _ _ _ _ => pg_name (i := 3) sc_Prices_eq.nd rfl (by first | exact .inl rfl | exact .inr rfl)) (fun _ _ _ _ _ => pts_nil) (fun _ _ _ _ _ => (pe_op op_mul (pe_dget (hu_of hr) (k_fld K (pv 0) rfl) (pv 3) (fun _ _ => rfl)) (k_fld K (pv 1) rfl))))
  (pss_cons (ps_setLc (i := 4) (own := [("good", 3)]) (g := gName 3) (by rfl) sc_Prices_eq.nd rfl rfl (sw_true rfl rfl rfl (by decide +kernel)) (pi_tup (pe_fld (pv 0) rfl)) (blkOk_by (own := [("good", 3)]) (N := n_Prices_eq) (sc := defScope s_Prices_eq) (by decide +kernel)) (fun _ _ _ _ _ => pg_name (i := 3) sc_Prices_eq.nd rfl (by first | exact .inl rfl | exact .inr rfl)) (fun _ _ _ _ _ => pts_nil) (fun _ _ _ _ _ => (pe_op op_mul (pe_dget (hu_of hr) (k_fld K (pv 1) rfl) (pv 3) (fun _ _ => rfl)) (k_fld K (pv 0) rfl))))
  (pss_one (ps_ret (pe_cmpR (op_eqD hr.units) (pv 2) (pv 4) (nomark _))))))), ?_⟩
      refine Evl.q_when (b := !false || true) (Evl.et_or (Evl.et_not (Evl.et_test (Evl.ev_cb (Evl.ea_cons (Evl.ev_var rfl) (Evl.ea_cons Evl.ev_c Evl.ea_nil)) fun H1 e Q q => ⟨v, .ref CP, .type T, .ref CP, false, rfl, .own _, .base (hty.ex e).ty, hki, q H1 (Evl.Ex.refl _)⟩))) fun h => by cases h) (fun hb H1 e1 => ?_) (fun hb => by cases hb)
      exact Evl.s_ret (v := .bl false) Evl.ev_c fun H2 e2 => hQ H2 (e1.trans e2)
    obtain ⟨x, y, kvs, kvs', ks, ks', ui, uj, rfl, ⟨dx, g, m, v2, h1, h2, h3, h4⟩, ⟨dy, g', m', v2', h1', h2', h3', h4'⟩, hk, hk', hT, hT', hl, hl', hS, hS', hQ⟩ := h
    refine ⟨_, (pss_cons (ps_if (PW.pt (pw_or (pt_not (pt_val (pe_callB call_isi (by rfl) m_isinstance PyProof.Rows.boot_isinstance (pa_cons (pv 1) (pa_cons (pe_cls (by rfl) g_Prices) pa_nil))))) (pw_or1 (pt_cmpR (op_neD hr.units) (pe_fld (pv 0) rfl) (pe_fld (pv 1) rfl) (nomark _)))))
   (pss_one (ps_ret pe_bl))
   pss_nil)
  (pss_cons (ps_setLc (i := 2) (own := [("good", 3)]) (g := gName 3) (by rfl) sc_Prices_eq.nd rfl rfl (sw_true rfl rfl rfl (by decide +kernel)) (pi_tup (pe_fld (pv 0) rfl)) (blkOk_by (own := [("good", 3)]) (N := n_Prices_eq) (sc := defScope s_Prices_eq) (by decide +kernel)) (fun _ _ _ _ _ => pg_name (i := 3) sc_Prices_eq.nd rfl (by first | exact .inl rfl | exact .inr rfl)) (fun _ _ _ _ _ => pts_nil) (fun _ _ _ _ _ => (pe_op op_mul (pe_dget (hu_of hr) (k_fld K (pv 0) rfl) (pv 3) (fun _ _ => rfl)) (k_fld K (pv 1) rfl))))
  (pss_cons (ps_setLc (i := 4) (own := [("good", 3)]) (g := gName 3) (by rfl) sc_Prices_eq.nd rfl rfl (sw_true rfl rfl rfl (by decide +kernel)) (pi_tup (pe_fld (pv 0) rfl)) (blkOk_by (own := [("good", 3)]) (N := n_Prices_eq) (sc := defScope s_Prices_eq) (by decide +kernel)) (fun _ _ _ _ _ => pg_name (i := 3) sc_Prices_eq.nd rfl (by first | exact .inl rfl | exact .inr rfl)) (fun _ _ _ _ _ => pts_nil) (fun _ _ _ _ _ => (pe_op op_mul (pe_dget (hu_of hr) (k_fld K (pv 1) rfl) (pv 3) (fun _ _ => rfl)) (k_fld K (pv 0) rfl))))
  (pss_one (ps_ret (pe_cmpR (op_eqD hr.units) (pv 2) (pv 4) (nomark _))))))), ?_⟩
    have sh : ∀ {zs : List Str}, TxtOk zs → SeqAt.shaped (.tuple ((srt zs).map PyData.str)) = true := fun h => (good_strsT fun z hz => (srt_ok h z hz).2).shaped (by decide)
    refine Evl.q_when (b := !true || !decide (srt ks = srt ks')) (Evl.et_or (Evl.et_not (Evl.et_test (Evl.ev_cb (Evl.ea_cons (Evl.ev_var rfl) (Evl.ea_cons Evl.ev_c Evl.ea_nil)) fun H1 e Q q => ⟨.ref y, .ref CP, .ref CP, .ref CP, true, rfl, .own _, .base (.ins (e _ _ h1') cls ins.ha ins.hn ins.tk ins.hm), ins.kit, q H1 (Evl.Ex.refl _)⟩))) fun _ => Evl.et_test (Evl.ev_is (Evl.ev_op (ev_fld (Evl.ev_var rfl) h1 cls noG rfl) (ev_fld (Evl.ev_var rfl) h1' cls noG rfl) (rv_neD (fun H1 e => dp_strsT (Evl.st_of (e _ _ h2))) (fun H1 e => dp_strsT (Evl.st_of (e _ _ h2'))) (sh hT) (sh hT'))) (by rw [eqv_strsT]))) (fun hb H1 e1 => ?_) (fun hb H1 e1 => ?_)
    · have hne : srt ks ≠ srt ks' := by simpa using hb
      refine Evl.s_ret (v := .bl false) Evl.ev_c fun H2 e2 => ?_
      have := hQ H2 (e1.trans e2)
      rw [eqPr, decide_eq_false hne] at this
      exact this
    · have he : srt ks = srt ks' := by simpa using hb
      have hs2 : ∀ s ∈ srt ks, s ∈ ks ∧ s ∈ ks' := fun s hs => ⟨srt_mem.mp hs, srt_mem.mp (he ▸ hs)⟩
      refine Evl.q_asgL (xs := ((srt ks).filter fun _ => true).map fun s => V.int (toI (amt kvs s) * uj)) (el_lcT (cv := V.str) (p := fun _ => true) (g := fun s => V.int (toI (amt kvs s) * uj)) (ev_fld (Evl.ev_var rfl) (e1 _ _ h1) cls noG rfl) (Evl.st_of (e1 _ _ h2)) (by rw [srt_len]; omega) (fun _ => rfl) (fun _ _ _ _ => et_yes) (fun s H2 e2 hs _ => ?_)) (fun p H2 np e2 hp => ?_)
      · obtain ⟨i, hi, b1, b2⟩ := hS s (hs2 s hs).1
        have hv := h4.am hk (hs2 s hs).1
        rw [hi] at hv ⊢
        have e12 := e1.trans e2
        exact Evl.ev_op (ev_dgetK (ev_fld (Evl.ev_var rfl) (e12 _ _ h1) cls noA rfl) (Evl.ev_var rfl) (e12 _ _ h3) hv) (ev_fld (Evl.ev_var rfl) (e12 _ _ h1') cls noU rfl) (Evl.rv_I (.inl ⟨b1, b2⟩))
      try dsimp only [gName, List.set]
      have e2 := e1.trans e2
      refine Evl.q_asgL (xs := ((srt ks).filter fun _ => true).map fun s => V.int (toI (amt kvs' s) * ui)) (el_lcT (cv := V.str) (p := fun _ => true) (g := fun s => V.int (toI (amt kvs' s) * ui)) (ev_fld (Evl.ev_var rfl) (e2 _ _ h1) cls noG rfl) (Evl.st_of (e2 _ _ h2)) (by rw [srt_len]; omega) (fun _ => rfl) (fun _ _ _ _ => et_yes) (fun s H3 e3 hs _ => ?_)) (fun q H3 nq e3 hq => ?_)
      · obtain ⟨i, hi, b1, b2⟩ := hS' s (hs2 s hs).2
        have hv := h4'.am hk' (hs2 s hs).2
        rw [hi] at hv ⊢
        have e12 := e2.trans e3
        exact Evl.ev_op (ev_dgetK (ev_fld (Evl.ev_var rfl) (e12 _ _ h1') cls noA rfl) (Evl.ev_var rfl) (e12 _ _ h3') hv) (ev_fld (Evl.ev_var rfl) (e12 _ _ h1) cls noU rfl) (Evl.rv_I (.inl ⟨b1, b2⟩))
      try dsimp only [gName, List.set]
      have hp3 := e3 _ _ hp
      rw [List.filter_eq_self.mpr fun _ _ => rfl] at hp3 hq
      have c1 : (srt ks).map (fun s => V.int (toI (amt kvs s) * uj)) = ((srt ks).map fun s => toI (amt kvs s) * uj).map V.int := by rw [List.map_map]; rfl
      have c2 : (srt ks).map (fun s => V.int (toI (amt kvs' s) * ui)) = ((srt ks).map fun s => toI (amt kvs' s) * ui).map V.int := by rw [List.map_map]; rfl
      rw [c1] at hp3
      rw [c2] at hq
      refine Evl.s_ret (v := .bl (eqPr kvs ks ui kvs' ks' uj)) (Evl.ev_is (Evl.ev_op (Evl.ev_var rfl) (Evl.ev_var rfl) (rv_eqD (fun H4 e4 => dp_ints (Evl.sq_of (e4 _ _ hp3))) (fun H4 e4 => dp_ints (Evl.sq_of (e4 _ _ hq))) (sh_ints _) (sh_ints _))) ?_) fun H4 e4 => hQ H4 ((e2.trans e3).trans e4)
      rw [eqv_ints, eqPr, decide_eq_true he, Bool.true_and]
      congr 1
      rw [Bool.eq_iff_iff, decide_eq_true_iff, List.all_eq_true]
      rw [List.map_inj_left]
      simp
end
end Lw

namespace Lw
open PySem PySem.Spec PyProof.Rows L2
abbrev s_iUnlikeGoods : Stmt := inClass (topS 9) 0
abbrev n_iUnlikeGoods : List Str := ["self", "names"]
theorem sc_iUnlikeGoods : FnScope n_iUnlikeGoods ["self", "names"] (defScope s_iUnlikeGoods) := ⟨rfl, rfl, rfl, by decide +kernel, rfl, by decide +kernel, by decide +kernel⟩
theorem ok_iUnlikeGoods {P : Program} {w : World} {K : PySem.W.Frag} {mg : Str → Option Value} {base : Heap} {f : Addr} {fd : FuncData} {C : Addr} (F : Fun K "__init__" "UnlikeGoods.__init__" s_iUnlikeGoods f fd) (O : OexC K C) (no : PySem.W.findIn K (.ref C) "names" = some none) : FnOk P w K mg base CX0 1 f fd ["self", "names"] (sp_init1 K C "names") := by
  refine F.ok sc_iUnlikeGoods (fun vs H Q E h => ?_) (fun cdv A outer s H vs Q E hr h => ⟨_, pss_one (ps_ost (pv 0) (pv 1)), ?_⟩)
  · obtain ⟨a, y, rfl, _⟩ := h
    rfl
  · obtain ⟨a, y, rfl, ha, hQ⟩ := h
    exact ⟨y, rfl, .ref a, rfl, a, C, rfl, O, no, .inl ⟨ha, hQ⟩⟩
def covPr (kvs : List (Key × V)) (ks : List Str) (ui : Int) (kvs' : List (Key × V)) (uj : Int) : Bool := (srt ks).all fun s => decide (toI (amt kvs' s) * ui ≤ toI (amt kvs s) * uj)
def sp_covers (CP CU : Addr) : Sp := fun vs H Q E => ∃ (x y : Addr) (kvs kvs' : List (Key × V)) (ks ks' : List Str) (ui uj : Int), vs = [.ref x, .ref y] ∧ PrAt CP x kvs ks (.int ui) H ∧ PrAt CP y kvs' ks' (.int uj) H ∧ KD kvs ks ∧ KD kvs' ks' ∧ TxtOk ks ∧ TxtOk ks' ∧ ks.length ≤ 5 ∧ ks'.length ≤ 5 ∧ Sml kvs ks ∧ Sml kvs' ks' ∧
  (srt ks ≠ srt ks' → ∀ H1 d g, Evl.Ex H H1 → H1 d = some (.xd [("names", .ref g)]) → H1 g = some (.tup ((srt ks').map V.str)) → E (.ref CU) (some d) H1) ∧ (srt ks = srt ks' → ∀ H1, Evl.Ex H H1 → Q (.bl (covPr kvs ks ui kvs' uj)) H1)
abbrev s_Prices_covers : Stmt := inClass (topS 22) 10
abbrev n_Prices_covers : List Str := ["self", "other", "good"]
theorem sc_Prices_covers : FnScope n_Prices_covers ["self", "other"] (defScope s_Prices_covers) := ⟨rfl, rfl, rfl, by decide +kernel, rfl, by decide +kernel, by decide +kernel⟩
theorem ev_prop {CP : Addr} {f : Str} {ta : TE} {σ : L2.St} {H : Hp} {a dx : Addr} {fs : List (Str × V)} {v : V} {E : XK} (h : Evl.Ev ta σ H (.ref a)) (hx : H a = some (.ins CP dx fs)) (l : fs.lookup f = some v) : Evl.Ev (tProp CP (getSp CP f) [] E ta) σ H v :=
  fun H1 e Q q => h H1 e _ fun H2 e2 => ⟨a, dx, fs, rfl, (e.trans e2) _ _ hx, a, dx, fs, v, rfl, (e.trans e2) _ _ hx, l, q H2 e2⟩
section
variable {P : Program} {w : World} {K : PySem.W.Frag} {mg : Str → Option Value} {base : Heap}
theorem ok_covers {f CP CU CN fi fg fu fU pg pu : Addr} {fd fdi fdg fdu fdU : FuncData} (F : Fun K "covers" "Prices.covers" s_Prices_covers f fd) (c_Prices : Cls K CP) (noG : NoAttr K CP "_goods") (noA : NoAttr K CP "_amounts") (noU : NoAttr K CP "_unit")
    (EU : ErC P w K mg base "UnlikeGoods" "names" CU fU fdU)
    (pr_Prices_goods : PropOf K CP "goods" pg fg) (G_Prices_goods : FnOk P w K mg base CX0 1 fg fdg ["self"] (getSp CP "_goods")) (b_Prices_goods : Binds K fdg ["self"] [])
    (pr_Prices_unit : PropOf K CP "unit" pu fu) (G_Prices_unit : FnOk P w K mg base CX0 1 fu fdu ["self"] (getSp CP "_unit")) (b_Prices_unit : Binds K fdu ["self"] [])
    (ix_Prices : OwnIx K CP fi) (G_Prices_getitem : FnOk P w K mg base (L2.CX P w) 3 fi fdi ["self", "good"] (sp_geti CP CN)) (b_Prices_getitem : Binds K fdi ["self", "good"] [])
    (m_all : mg "all" = none) : FnOk P w K mg base (L2.CX P w) 5 f fd ["self", "other"] (sp_covers CP CU) := by
  refine F.okX sc_Prices_covers (fun vs H Q E h => ?_) (fun cdv A outer s H vs Q E hr h => ?_)
  · obtain ⟨x, y, kvs, kvs', ks, ks', ui, uj, rfl, _⟩ := h
    rfl
  · obtain ⟨x, y, kvs, kvs', ks, ks', ui, uj, rfl, ⟨dx, g, m, v2, h1, h2, h3, h4⟩, hp', hk, hk', hT, hT', hl, hl', hS, hS', hE, hQ⟩ := h
    obtain ⟨dy, g', m', v2', h1', h2', h3', h4'⟩ := id hp'
    have O_UnlikeGoods := EU.O
    have i_UnlikeGoods := EU.i
    have t_UnlikeGoods := EU.t
    have G_iUnlikeGoods := EU.G
    have b_iUnlikeGoods := EU.b
    have g_UnlikeGoods := EU.g
    refine ⟨_, (pss_cons (ps_if (pt_cmpR (op_neD hr.units) (pe_prop (pv 1) c_Prices pr_Prices_goods G_Prices_goods (hr.mono (by decide)) b_Prices_goods .nil pass0 rfl) (pe_fld (pv 0) rfl) (nomark _))
   (pss_one (ps_raise rfl (takes_of rfl rfl rfl rfl) (pmk_oex O_UnlikeGoods i_UnlikeGoods t_UnlikeGoods G_iUnlikeGoods (hr.mono (by decide)) b_iUnlikeGoods .nil pass0 (by rfl) g_UnlikeGoods (pa_cons (pe_prop (pv 1) c_Prices pr_Prices_goods G_Prices_goods (hr.mono (by decide)) b_Prices_goods .nil pass0 rfl) pa_nil))))
   pss_nil)
  (pss_one (ps_ret (pe_callB (cr_all rfl) (by rfl) m_all (by decide +kernel) (pa_cons (pe_lc (own := [("good", 2)]) (g := gName 2) (by rfl) sc_Prices_covers.nd (pi_tup (pe_fld (pv 0) rfl)) (blkOk_by (own := [("good", 2)]) (N := n_Prices_covers) (sc := defScope s_Prices_covers) (by decide +kernel)) (fun _ _ _ _ _ => pg_name (i := 2) sc_Prices_covers.nd rfl (by first | exact .inl rfl | exact .inr rfl)) (fun _ _ _ _ _ => pts_nil) (fun _ _ _ _ _ => (pe_cmpR op_ge (pe_op op_mul (pe_dget (hu_of hr) (k_fld K (pv 0) rfl) (pv 2) (fun _ _ => rfl)) (pe_prop (pv 1) c_Prices pr_Prices_unit G_Prices_unit (hr.mono (by decide)) b_Prices_unit .nil pass0 rfl)) (pe_op op_mul (pe_oix (pv 1) (pv 2) ix_Prices G_Prices_getitem (hr.mono (by decide)) b_Prices_getitem (fun σ pins => passL pins σ)) (k_fld K (pv 0) rfl)) (nomark _)))) pa_nil))))), ?_⟩
    have sh : ∀ {zs : List Str}, TxtOk zs → SeqAt.shaped (.tuple ((srt zs).map PyData.str)) = true := fun h => (good_strsT fun z hz => (srt_ok h z hz).2).shaped (by decide)
    refine Evl.q_when (b := !decide (srt ks' = srt ks)) (Evl.et_test (Evl.ev_is (Evl.ev_op (ev_prop (Evl.ev_var rfl) h1' rfl) (ev_fld (Evl.ev_var rfl) h1 c_Prices noG rfl) (rv_neD (fun H1 e => dp_strsT (Evl.st_of (e _ _ h2'))) (fun H1 e => dp_strsT (Evl.st_of (e _ _ h2))) (sh hT') (sh hT))) (by rw [eqv_strsT]))) (fun hb H1 e1 => ?_) (fun hb H1 e1 => ?_)
    · have hne : srt ks ≠ srt ks' := fun h => by
        rw [decide_eq_true h.symm] at hb
        cases hb
      refine Evl.ea_cons (ev_prop (Evl.ev_var rfl) (e1 _ _ h1') rfl) Evl.ea_nil H1 (Evl.Ex.refl _) _ fun H2 e2 => ?_
      exact mk1_at fun d nd => hE hne _ d g' ((e1.trans e2).trans (Evl.Ex.new nd)) upd_same (((e1.trans e2).trans (Evl.Ex.new nd)) _ _ h2')
    · have he : srt ks = srt ks' := by
        have : srt ks' = srt ks := by simpa using hb
        exact this.symm
      have hs2 : ∀ s ∈ srt ks, s ∈ ks ∧ s ∈ ks' := fun s hs => ⟨srt_mem.mp hs, srt_mem.mp (he ▸ hs)⟩
      refine Evl.s_ret (v := .bl (covPr kvs ks ui kvs' uj)) (Evl.ev_is (ev_cbL (el_lcT (xs := srt ks) (cv := V.str) (p := fun _ => true) (g := fun s => V.bl (decide (toI (amt kvs' s) * ui ≤ toI (amt kvs s) * uj))) (ev_fld (Evl.ev_var rfl) (e1 _ _ h1) c_Prices noG rfl) (Evl.st_of (e1 _ _ h2)) (by rw [srt_len]; omega) (fun _ => rfl) (fun _ _ _ _ => et_yes) (fun s H2 e2 hs _ => ?_)) (fun p H3 hp _ => rc_all (bs := (srt ks).map fun s => decide (toI (amt kvs' s) * ui ≤ toI (amt kvs s) * uj)) (.inl (.inl ?_)))) ?_) fun H2 e2 => hQ he H2 (e1.trans e2)
      · obtain ⟨i, hi, b1, b2⟩ := hS s (hs2 s hs).1
        obtain ⟨j, hj, c1, c2⟩ := hS' s (hs2 s hs).2
        have hv := h4.am hk (hs2 s hs).1
        rw [hi] at hv ⊢
        rw [hj]
        have e12 := e1.trans e2
        exact Evl.ev_op (Evl.ev_op (ev_dgetK (ev_fld (Evl.ev_var rfl) (e12 _ _ h1) c_Prices noA rfl) (Evl.ev_var rfl) (e12 _ _ h3) hv) (ev_prop (Evl.ev_var rfl) (e12 _ _ h1') rfl) (Evl.rv_I (.inl ⟨b1, b2⟩))) (Evl.ev_op (x := .int j) (fun H3 e3 Q q => ⟨.ref y, rfl, .str s, rfl, y, dy, _, rfl, (e12.trans e3) _ _ h1', y, s, kvs', ks', .int uj, rfl, hp'.ex (e12.trans e3), hk', fun _ H4 e4 => by rw [hj]; exact q H4 e4, fun h => absurd (hs2 s hs).2 h⟩) (ev_fld (Evl.ev_var rfl) (e12 _ _ h1) c_Prices noU rfl) (Evl.rv_I (.inl ⟨c1, c2⟩))) Evl.rv_I0
      · rw [hp, List.filter_eq_self.mpr fun _ _ => rfl, List.map_map]
        rfl
      · rw [covPr, List.all_map]
        rfl
end
end Lw

namespace Lw
open PySem PySem.Spec PyProof.Rows L2
theorem FrX.ofMake {x dx : Addr} {H H1 : Hp} {a b : HO} (nx : H x = none) (nd : H dx = none) (h : FrX x (upd (upd H dx a) x b) H1) : Evl.Ex H H1 := fun c o hc => by
  have n1 : c ≠ x := ne_of_none hc nx
  have n2 : c ≠ dx := ne_of_none hc nd
  refine h c o ?_ n1
  rw [upd_ne n1, upd_ne n2]
  exact hc
/-- new prices -/
def PrN (CP y : Addr) (kvs : List (Key × V)) (ks : List Str) (u : V) (H H1 : Hp) : Prop := ∃ dx g m kvs2, H y = none ∧ H g = none ∧ H m = none ∧ H1 y = some (.ins CP dx (prF g m u)) ∧ H1 g = some (.tup ((srt ks).map V.str)) ∧ H1 m = some (.dK kvs2) ∧ SameD kvs2 kvs ks
theorem srt_of_perm {a b : List Str} (h : a.Perm b) : srt a = srt b := by
  refine List.Perm.eq_of_pairwise (fun a b _ _ h1 h2 => ?_) (srt_sorted a) (srt_sorted b) (((srt_perm a).trans h).trans (srt_perm b).symm)
  have e := List.le_antisymm (of_decide_eq_true h1) (of_decide_eq_true h2)
  cases a with
  | mk a =>
    cases b with
    | mk b => exact congrArg Str.mk (Array.ext' e)
/-- the amounts times q -/
def timesD (kvs : List (Key × V)) (ks : List Str) (q : Int) : List (Key × V) := ks.map fun s => (.inr s, .int (toI (amt kvs s) * q))
theorem timesD_kd (kvs : List (Key × V)) (ks : List Str) (q : Int) : KD (timesD kvs ks q) ks := by
  unfold KD timesD
  rw [List.map_map]
  rfl
theorem timesD_amt {kvs : List (Key × V)} {ks : List Str} {q : Int} (hn : ks.Nodup) {s : Str} (hs : s ∈ ks) : valV (timesD kvs ks q) (.inr s) = some (.int (toI (amt kvs s) * q)) := by
  have hp : ((.inr s, .int (toI (amt kvs s) * q)) : Key × V) ∈ timesD kvs ks q := List.mem_map.mpr ⟨s, hs, rfl⟩
  exact (timesD_kd kvs ks q).val hn hp
def sp_scaled (K : PySem.W.Frag) (CP CU : Addr) : Sp := fun vs H Q E => ∃ (x : Addr) (v : V) (kvs : List (Key × V)) (ks : List Str) (ui : Int), vs = [.ref x, v] ∧ PrAt CP x kvs ks (.int ui) H ∧ KD kvs ks ∧ ks.Nodup ∧ TxtOk ks ∧ gres (srt ks) = .ok ∧ (∀ s ∈ ks, ∃ i, amt kvs s = .int i ∧ 0 ≤ i ∧ i < 2 ^ 64) ∧ 1 ≤ ui ∧ ui < 2 ^ 64 ∧ AmX H v ∧
  ((∀ z, v = .int z → 1 ≤ z → z % ui ≠ 0) → ∀ H1 d, Evl.Ex H H1 → H1 d = some (.xd [("value", v)]) → E (.ref CU) (some d) H1) ∧
  (∀ q, v = .int (ui * q) → 1 ≤ q → ∀ H1 y, Evl.Ex H H1 → PrN CP y (timesD kvs ks q) ks v H H1 → Q (.ref y) H1)
theorem firstBad_all {kvs : List (Key × V)} : ∀ {ws : List Str}, (∀ s ∈ ws, whole (amt kvs s) 0 = true) → firstBad kvs ws = none
  | [], _ => rfl
  | x :: r, h => by
    unfold firstBad
    rw [if_pos (h x List.mem_cons_self)]
    exact firstBad_all fun s hs => h s (List.mem_cons_of_mem _ hs)
theorem pres_ok {kvs : List (Key × V)} {ws : List Str} {u : V} (h1 : gres ws = .ok) (h2 : ∀ s ∈ ws, whole (amt kvs s) 0 = true) (h3 : whole u 1 = true) : pres kvs ws u = .ok := by
  unfold pres
  rw [h1]
  simp only [firstBad_all h2, h3, if_true]
abbrev s_Prices_in_unit : Stmt := inClass (topS 22) 9
abbrev n_Prices_in_unit : List Str := ["self", "unit", "factor", "good"]
theorem sc_Prices_in_unit : FnScope n_Prices_in_unit ["self", "unit"] (defScope s_Prices_in_unit) := ⟨rfl, rfl, rfl, by decide +kernel, rfl, by decide +kernel, by decide +kernel⟩
section
variable {P : Program} {w : World} {K : PySem.W.Frag} {mg : Str → Option Value} {base : Heap}
theorem ok_scaled {f CP CB CN CD CA CU fi fU f3 : Addr} {fd fdi fdU fd3 : FuncData} {ds : List Value} {gg : List Value → List Value → List Value} (F : Fun K "in_unit" "Prices.in_unit" s_Prices_in_unit f fd) (cls : Cls K CP) (noG : NoAttr K CP "_goods") (noA : NoAttr K CP "_amounts") (noU : NoAttr K CP "_unit")
    (EU : ErC P w K mg base "BadUnit" "value" CU fU fdU)
    (F_is_whole : FunD K "is_whole" "is_whole" (defArgs s_is_whole) (defBody s_is_whole) (defScope s_is_whole) [.non] [] f3 fd3) (b_is_whole : Binds K fd3 ["value", "least", "most"] ds) (d_is_whole : Vals [.non] ds) (g_is_whole : mg "is_whole" = some (.ref f3)) (G_is_whole : FnOk P w K mg base CX0 1 f3 fd3 ["value", "least", "most"] sp_whole)
    (M_Prices : Mk K CP fi) (g_Prices : mg "Prices" = some (.ref CP)) (G_Prices_init : FnOk P w K mg base (L2.CX P w) 4 fi fdi ["self", "amounts", "unit"] (sp_init K ⟨CP, CB, CN, CD, CA, CU⟩)) (kb_Prices_unit : KBn K fdi ["self", "amounts", "unit"] 2 ["unit"] gg (fun us ws => us ++ ws)) : FnOk P w K mg base (L2.CX P w) 6 f fd ["self", "unit"] (sp_scaled K CP CU) := by
  refine F.okX sc_Prices_in_unit (fun vs H Q E h => ?_) (fun cdv A outer s H vs Q E hr h => ?_)
  · obtain ⟨x, v, kvs, ks, ui, rfl, _⟩ := h
    rfl
  · obtain ⟨x, v, kvs, ks, ui, rfl, ⟨dx, g, m, v2, h1, h2, h3, h4⟩, hk, hn, hT, hg, hS, hu0, hu1, hA, hE, hQ⟩ := h
    have O_BadUnit := EU.O
    have i_BadUnit := EU.i
    have t_BadUnit := EU.t
    have G_iBadUnit := EU.G
    have b_iBadUnit := EU.b
    have g_BadUnit := EU.g
    refine ⟨_, (pss_cons (ps_if (PW.pt (pw_or (pt_not (pt_val (pe_call G_is_whole (hr.mono (by decide)) (by rfl) g_is_whole F_is_whole.kp b_is_whole d_is_whole pass0 (pa_cons (pv 1) (pa_cons pe_int pa_nil))))) (pw_or1 (pt_cmpR op_ne (pe_op op_mod (pv 1) (pe_fld (pv 0) rfl)) pe_int (nomark _)))))
   (pss_one (ps_raise rfl (takes_of rfl rfl rfl rfl) (pmk_oex O_BadUnit i_BadUnit t_BadUnit G_iBadUnit (hr.mono (by decide)) b_iBadUnit .nil pass0 (by rfl) g_BadUnit (pa_cons (pv 1) pa_nil))))
   pss_nil)
  (pss_cons (ps_set (i := 2) sc_Prices_in_unit.nd rfl (by first | exact .inl rfl | exact .inr rfl) (pe_op op_fdivW (pv 1) (pe_fld (pv 0) rfl)))
  (pss_one (ps_ret (pe_makeK M_Prices G_Prices_init (hr.mono (by decide)) (by rfl) g_Prices kb_Prices_unit (passUp (takes_of rfl rfl rfl rfl) (fun _ _ _ _ h => h)) (pa_cons (pe_dc (own := [("good", 3)]) (g := gName 3) (by rfl) sc_Prices_in_unit.nd (pi_tup (pe_fld (pv 0) rfl)) (blkOk_by (own := [("good", 3)]) (N := n_Prices_in_unit) (sc := defScope s_Prices_in_unit) (by decide +kernel)) (fun _ _ _ _ _ => pg_name (i := 3) sc_Prices_in_unit.nd rfl (by first | exact .inl rfl | exact .inr rfl)) (fun _ _ _ _ _ => pts_nil) (fun _ _ _ _ _ => (pv 3)) (fun _ _ _ _ _ => (pe_op op_mul (pe_dget (hu_of hr) (k_fld K (pv 0) rfl) (pv 3) (fun _ _ => rfl)) (pv 2)))) pa_nil) (pk_cons (pv 1) pk_nil)))))), ?_⟩
    have hl5 := (gres_ok.mp hg).1.2
    rw [srt_len] at hl5
    have un : ∀ {H1 : Hp}, Evl.Ex H H1 → Evl.Ev (tFld K (tVar 0) "_unit") (start n_Prices_in_unit [.ref x, v]) H1 (.int ui) := fun {H1} e => ev_fld (Evl.ev_var rfl) (e _ _ h1) cls noU rfl
    cases hw : whole v 1 with
    | false =>
      refine Evl.q_when (b := !false || true) (Evl.et_or (Evl.et_not (Evl.et_B (Evl.ev_call (z := .bl false) (Evl.ea_cons (Evl.ev_var rfl) (Evl.ea_cons Evl.ev_c Evl.ea_nil)) fun H4 e4 Q q E => ⟨v, 1, rfl, hA.ex e4, fun H5 e5 => by rw [hw]; exact q H5 e5⟩))) (fun h => by cases h)) (fun _ H1 e1 => ?_) (fun h => by cases h)
      refine Evl.ea_cons (Evl.ev_var rfl) Evl.ea_nil H1 (Evl.Ex.refl _) _ fun H2 e2 => ?_
      refine mk1_at fun d nd => hE (fun z hz h1 _ => ?_) _ d ((e1.trans e2).trans (Evl.Ex.new nd)) upd_same
      rw [hz] at hw
      simp [whole] at hw
      omega
    | true =>
      obtain ⟨z, rfl, hz1⟩ := whole_int hw
      refine Evl.q_when (b := !true || !decide (V.int (z % ui) = V.int 0)) (Evl.et_or (Evl.et_not (Evl.et_B (Evl.ev_call (z := .bl true) (Evl.ea_cons (Evl.ev_var rfl) (Evl.ea_cons Evl.ev_c Evl.ea_nil)) fun H4 e4 Q q E => ⟨_, 1, rfl, hA.ex e4, fun H5 e5 => by rw [hw]; exact q H5 e5⟩))) fun _ => Evl.et_test (Evl.ev_op (Evl.ev_op (Evl.ev_var rfl) (un (Evl.Ex.refl H)) (Evl.rv_I (show 0 < ui by omega))) Evl.ev_c (Evl.rv_ne rfl))) (fun hb H1 e1 => ?_) (fun hb H1 e1 => ?_)
      · refine Evl.ea_cons (Evl.ev_var rfl) Evl.ea_nil H1 (Evl.Ex.refl _) _ fun H2 e2 => ?_
        refine mk1_at fun d nd => hE (fun z' hz _ hm => ?_) _ d ((e1.trans e2).trans (Evl.Ex.new nd)) upd_same
        cases hz
        rw [hm] at hb
        simp at hb
      · have hm : z % ui = 0 := by simpa using hb
        obtain ⟨q, hq⟩ : ∃ q, z = ui * q := ⟨z / ui, by have := Int.mul_ediv_add_emod z ui; omega⟩
        have hq1 : 1 ≤ q := by
          rcases (show q < 1 ∨ 1 ≤ q by omega) with h | h
          · have : ui * q ≤ ui * 0 := Int.mul_le_mul_of_nonneg_left (by omega) (by omega)
            omega
          · exact h
        have hdiv : z / ui = q := by rw [hq, Int.mul_ediv_cancel_left _ (by omega)]
        have hcd : CDivW z ui := by
          have h64 : (2 : Nat) ^ 64 = 18446744073709551616 := by decide
          exact wide_div (b := 64) (by omega) (by omega) (by decide) (by decide)
        refine Evl.q_asg (v := .int (z / ui)) (Evl.ev_op (Evl.ev_var rfl) (un e1) (Evl.rv_I hcd)) (fun H2 e2 => ?_)
        rw [hdiv]
        have e12 := e1.trans e2
        have hx := e12 _ _ h1
        have hgo := e12 _ _ h2
        have hmo := e12 _ _ h3
        try dsimp only [gName, List.set]
        refine ⟨.ref x, rfl, x, CP, dx, _, .ref g, rfl, hx, cls, noG, rfl, g, rfl, ⟨_, Evl.st_of hgo⟩, fun D nD => ?_⟩
        refine dc_it (walk_tup (xs := (srt ks).map V.str)) (fun i H' => ∃ kvs2 ks2, H' D = some (.dK kvs2) ∧ KD kvs2 ks2 ∧ ks2.Nodup ∧ ks2.length ≤ i ∧ (∀ s, s ∈ ks2 ↔ s ∈ (srt ks).take i) ∧ (∀ s ∈ ks2, valV kvs2 (.inr s) = some (.int (toI (amt kvs s) * q))) ∧ (∀ b o, H2 b = some o → H' b = some o))
          ⟨[], [], upd_same, rfl, List.nodup_nil, Nat.le_refl _, fun s => by simp, fun s hs => (by cases hs), fun b o hb => Evl.Ex.new nD _ _ hb⟩ (fun i H' hi h => ?_) (fun i y H' H'' hi h hy => ?_) (fun H' h => ?_)
        · obtain ⟨_, _, _, _, _, _, _, _, h8⟩ := h
          exact Evl.st_of (h8 _ _ hgo)
        · obtain ⟨kvs2, ks2, g1, g2, g3, g4, g5, g6, g8⟩ := h
          obtain ⟨rfl, hy⟩ := hy
          rw [List.length_map] at hi
          rw [List.getElem?_map] at hy
          obtain ⟨s, hs, rfl⟩ := Option.map_eq_some_iff.mp hy
          have hsm := srt_mem.mp (List.mem_of_getElem? hs)
          obtain ⟨j, hj, j0, j1⟩ := hS s hsm
          have hv := h4.am hk hsm
          rw [hj] at hv
          rw [srt_len] at hi
          refine ⟨rfl, .str s, rfl, .ref x, rfl, x, CP, dx, _, .ref m, rfl, g8 _ _ hx, cls, noA, rfl, .str s, rfl, m, .int j, rfl, by rw [← hv]; exact DGet.k (k := .inr s) (g8 _ _ hmo), .int q, rfl, j, q, rfl, rfl, .inl ⟨by omega, by omega⟩, kvs2, .inr s, rfl, g1, Evl.sz_lt (by rw [g2.len]; omega), putK kvs2 (.inr s) (.int (j * q)), addK ks2 s, upd_same, g2.put s _, addK_nd g3, Nat.le_trans addK_len (by omega), fun z => ?_, fun z hz => ?_, fun b o hb => ?_⟩
          · rw [addK_mem, g5, List.take_add_one, hs, List.mem_append]
            simp
          · rw [lookK]
            by_cases hzs : z = s
            · rw [if_pos (by rw [hzs]), hzs, hj]
              rfl
            · rw [if_neg (fun e => hzs (Sum.inr.inj e))]
              rcases addK_mem.mp hz with hz | hz
              · exact g6 z hz
              · exact absurd hz hzs
          · rw [upd_ne (ne_of_none hb nD)]
            exact g8 b o hb
        · obtain ⟨kvs2, ks2, g1, g2, g3, g4, g5, g6, g8⟩ := h
          rw [List.length_map, List.take_length] at g5
          have g5 : ∀ s, s ∈ ks2 ↔ s ∈ ks := fun s => by rw [g5, srt_mem]
          have hp : ks2.Perm ks := (List.perm_ext_iff_of_nodup g3 hn).mpr g5
          have hsr := srt_of_perm hp
          have am2 : ∀ s ∈ ks2, amt kvs2 s = .int (toI (amt kvs s) * q) := fun s hs => by
            unfold amt
            rw [g6 s hs]
            rfl
          have hint : ∀ p ∈ kvs2, ∃ i, p.2 = .int i := fun p hpm => by
            obtain ⟨s, hs, e⟩ := g2.key hpm
            have := g2.val g3 hpm
            rw [e, g6 s hs] at this
            exact ⟨_, (Option.some.inj this).symm⟩
          refine ⟨.int z, rfl, rfl, rfl, fun y dy ny ndy nyd => ?_⟩
          have e0 : Evl.Ex H' (upd (upd H' dy (.own y)) y (.ins CP dy [])) := (Evl.Ex.new ndy).trans (Evl.Ex.new (by rw [upd_ne (Ne.symm nyd)]; exact ny))
          have eH : Evl.Ex H H' := fun b o hb => g8 _ _ (e12 _ _ hb)
          refine ⟨y, dy, D, kvs2, ks2, .int z, rfl, upd_same, e0 _ _ g1, g2, fun s hs => hT s ((g5 s).mp hs), by rw [hp.length_eq]; omega, fun p hp => .inl (hint p hp), .inl ⟨_, rfl⟩, ?_⟩
          unfold initAt
          rw [hsr, pres_ok hg (fun s hs => ?_) (by simp [whole]; exact hz1)]
          · intro H3 g3' m3 kvs3 fr ng nm hx3 hg3 hm3 hs3
            refine ⟨rfl, ?_⟩
            subst hq
            refine hQ q rfl hq1 H3 y (eH.trans (FrX.ofMake ny ndy fr)) ⟨dy, g3', m3, kvs3, Evl.fresh_back eH ny, Evl.fresh_back (eH.trans e0) ng, Evl.fresh_back (eH.trans e0) nm, hx3, hg3, hm3, ?_⟩
            obtain ⟨ks3, b1, b2, b3, b4⟩ := hs3
            refine ⟨ks3, b1, b2, fun s => (b3 s).trans (g5 s), fun s hs => ?_⟩
            have hs2 := (g5 s).mpr hs
            rw [b4 s hs2, g6 s hs2, timesD_amt hn hs]
          · have hs2 := (g5 s).mpr (srt_mem.mp hs)
            obtain ⟨j, hj, j0, j1⟩ := hS s (srt_mem.mp hs)
            rw [am2 s hs2, hj]
            exact decide_eq_true (Int.mul_nonneg j0 (by omega))
end
end Lw

namespace Lw
open PySem PySem.Spec PyProof.Rows L2
theorem mergeK_app : ∀ (more acc : List (Key × V)), ((acc ++ more).map (·.1)).Nodup → mergeK acc more = acc ++ more
  | [], acc, _ => by simp [mergeK]
  | p :: r, acc, h => by
    have hv : valV acc p.1 = none := by
      cases hv : valV acc p.1 with
      | none => rfl
      | some v =>
        have h1 := valV_in hv
        rw [List.map_append, List.map_cons] at h
        exact absurd rfl ((List.nodup_append.mp h).2.2 _ h1 _ List.mem_cons_self)
    show mergeK (putK acc p.1 p.2) r = _
    rw [putK_new _ hv, mergeK_app r (acc ++ [p]) (by simpa using h)]
    simp
def sp_raised (CP CN CA : Addr) : Sp := fun vs H Q E => ∃ (x : Addr) (s : Str) (b : V) (kvs : List (Key × V)) (ks : List Str) (ui : Int), vs = [.ref x, .str s, b] ∧ PrAt CP x kvs ks (.int ui) H ∧ KD kvs ks ∧ ks.Nodup ∧ TxtOk ks ∧ gres (srt ks) = .ok ∧ (∀ s ∈ ks, ∃ i, amt kvs s = .int i ∧ 0 ≤ i ∧ i < 2 ^ 64) ∧ 1 ≤ ui ∧ AmX H b ∧
  (s ∉ ks → ∀ H1 d, Evl.Ex H H1 → H1 d = some (.xd [("name", .str s)]) → E (.ref CN) (some d) H1) ∧ (s ∈ ks → whole b 0 = false → ∀ H1 d, Evl.Ex H H1 → H1 d = some (.xd [("price", b)]) → E (.ref CA) (some d) H1) ∧
  (∀ z, s ∈ ks → b = .int z → 0 ≤ z → ∀ H1 y, Evl.Ex H H1 → PrN CP y (putK kvs (.inr s) (.int (toI (amt kvs s) + z))) ks (.int ui) H H1 → Q (.ref y) H1)
abbrev s_Prices_raised : Stmt := inClass (topS 22) 8
abbrev n_Prices_raised : List Str := ["self", "good", "by", "amount"]
theorem sc_Prices_raised : FnScope n_Prices_raised ["self", "good", "by"] (defScope s_Prices_raised) := ⟨rfl, rfl, rfl, by decide +kernel, rfl, by decide +kernel, by decide +kernel⟩
section
variable {P : Program} {w : World} {K : PySem.W.Frag} {mg : Str → Option Value} {base : Heap}
theorem ok_raised {f CP CB CN CD CA CU CUn fi fA f3 fg : Addr} {fd fdi fdA fd3 fdg : FuncData} {ds : List Value} {gg : List Value → List Value → List Value} (F : Fun K "raised" "Prices.raised" s_Prices_raised f fd) (cls : Cls K CP) (noA : NoAttr K CP "_amounts") (noU : NoAttr K CP "_unit")
    (EA : ErC P w K mg base "BadPrice" "price" CA fA fdA)
    (F_is_whole : FunD K "is_whole" "is_whole" (defArgs s_is_whole) (defBody s_is_whole) (defScope s_is_whole) [.non] [] f3 fd3) (b_is_whole : Binds K fd3 ["value", "least", "most"] ds) (d_is_whole : Vals [.non] ds) (g_is_whole : mg "is_whole" = some (.ref f3)) (G_is_whole : FnOk P w K mg base CX0 1 f3 fd3 ["value", "least", "most"] sp_whole)
    (ix_Prices : OwnIx K CP fg) (G_Prices_getitem : FnOk P w K mg base (L2.CX P w) 3 fg fdg ["self", "good"] (sp_geti CP CUn)) (b_Prices_getitem : Binds K fdg ["self", "good"] [])
    (M_Prices : Mk K CP fi) (g_Prices : mg "Prices" = some (.ref CP)) (G_Prices_init : FnOk P w K mg base (L2.CX P w) 4 fi fdi ["self", "amounts", "unit"] (sp_init K ⟨CP, CB, CN, CD, CA, CU⟩)) (kb_Prices_unit : KBn K fdi ["self", "amounts", "unit"] 2 ["unit"] gg (fun us ws => us ++ ws)) : FnOk P w K mg base (L2.CX P w) 6 f fd ["self", "good", "by"] (sp_raised CP CUn CA) := by
  refine F.okX sc_Prices_raised (fun vs H Q E h => ?_) (fun cdv A outer s H vs Q E hr h => ?_)
  · obtain ⟨x, s, b, kvs, ks, ui, rfl, _⟩ := h
    rfl
  · obtain ⟨x, z0, b, kvs, ks, ui, rfl, hp, hk, hn, hT, hg, hS, hu0, hA, hE1, hE2, hQ⟩ := h
    obtain ⟨dx, g, m, v2, h1, h2, h3, h4⟩ := id hp
    have O_BadPrice := EA.O
    have i_BadPrice := EA.i
    have t_BadPrice := EA.t
    have G_iBadPrice := EA.G
    have b_iBadPrice := EA.b
    have g_BadPrice := EA.g
    refine ⟨_, (pss_cons (ps_set (i := 3) sc_Prices_raised.nd rfl (by first | exact .inl rfl | exact .inr rfl) (pe_oix (pv 0) (pv 1) ix_Prices G_Prices_getitem (hr.mono (by decide)) b_Prices_getitem (fun σ pins => passUp (takes_of rfl rfl rfl rfl) (fun _ _ _ _ h => h) pins σ)))
  (pss_cons (ps_if (pt_not (pt_val (pe_call G_is_whole (hr.mono (by decide)) (by rfl) g_is_whole F_is_whole.kp b_is_whole d_is_whole pass0 (pa_cons (pv 2) (pa_cons pe_int pa_nil)))))
   (pss_one (ps_raise rfl (takes_of rfl rfl rfl rfl) (pmk_oex O_BadPrice i_BadPrice t_BadPrice G_iBadPrice (hr.mono (by decide)) b_iBadPrice .nil pass0 (by rfl) g_BadPrice (pa_cons (pv 2) pa_nil))))
   pss_nil)
  (pss_one (ps_ret (pe_makeK M_Prices G_Prices_init (hr.mono (by decide)) (by rfl) g_Prices kb_Prices_unit (passUp (takes_of rfl rfl rfl rfl) (fun _ _ _ _ h => h)) (pa_cons (pe_dstar (pe_fld (pv 0) rfl) (pv 1) (pe_op op_add (pv 3) (pv 2))) pa_nil) (pk_cons (pe_fld (pv 0) rfl) pk_nil)))))), ?_⟩
    have hl5 := (gres_ok.mp hg).1.2
    rw [srt_len] at hl5
    refine ⟨.ref x, rfl, .str z0, rfl, x, dx, _, rfl, h1, x, z0, kvs, ks, .int ui, rfl, hp, hk, fun hm H1 e1 => ?_, hE1⟩
    obtain ⟨i, hi, i0, i1⟩ := hS z0 hm
    rw [hi]
    try dsimp only [gName, List.set]
    have hs2 := h4
    obtain ⟨ks2, b1, b2, b3, b4⟩ := hs2
    cases hw : whole b 0 with
    | false =>
      refine Evl.q_when (b := !false) (Evl.et_not (Evl.et_B (Evl.ev_call (z := .bl false) (Evl.ea_cons (Evl.ev_var rfl) (Evl.ea_cons Evl.ev_c Evl.ea_nil)) fun H4 e4 Q q E => ⟨b, 0, rfl, (hA.ex e1).ex e4, fun H5 e5 => by rw [hw]; exact q H5 e5⟩))) (fun _ H2 e2 => ?_) (fun h => by cases h)
      refine Evl.ea_cons (Evl.ev_var rfl) Evl.ea_nil H2 (Evl.Ex.refl _) _ fun H3 e3 => ?_
      exact mk1_at fun d nd => hE2 hm hw _ d (((e1.trans e2).trans e3).trans (Evl.Ex.new nd)) upd_same
    | true =>
      obtain ⟨z, rfl, hz0⟩ := whole_int hw
      refine Evl.q_when (b := !true) (Evl.et_not (Evl.et_B (Evl.ev_call (z := .bl true) (Evl.ea_cons (Evl.ev_var rfl) (Evl.ea_cons Evl.ev_c Evl.ea_nil)) fun H4 e4 Q q E => ⟨_, 0, rfl, (hA.ex e1).ex e4, fun H5 e5 => by rw [hw]; exact q H5 e5⟩))) (fun h => by cases h) (fun _ H2 e2 => ?_)
      have e12 := e1.trans e2
      try dsimp only [gName, List.set]
      intro p np
      have hm2 : mergeK [] v2 = v2 := mergeK_app v2 [] (by
        show (v2.map (·.1)).Nodup
        rw [b1]
        exact List.Pairwise.map _ (fun a b (hne : a ≠ b) e => hne (Sum.inr.inj e)) b2)
      have hx := Evl.Ex.new (o := .dK []) np _ _ (e12 _ _ h1)
      have hmm := Evl.Ex.new (o := .dK []) np _ _ (e12 _ _ h3)
      refine ⟨.ref x, rfl, x, CP, dx, _, .ref m, rfl, hx, cls, noA, rfl, m, v2, rfl, ne_of_none (e12 _ _ h3) np, hmm, upd_same, by
        have := b1.len
        have hp := (List.perm_ext_iff_of_nodup b2 hn).mpr b3
        rw [this, hp.length_eq]
        omega, fun q nq => ?_⟩
      rw [hm2] at nq ⊢
      have c1 : ∀ (c : Addr) (o : HO), H2 c = some o → c ≠ p ∧ c ≠ q := fun c o hc => by
        have n1 := ne_of_none hc np
        refine ⟨n1, ne_of_none (a := c) (o := o) ?_ nq⟩
        rw [upd_ne n1, upd_ne n1]
        exact hc
      have qp : q ≠ p := fun e => by
        rw [e, upd_same] at nq
        cases nq
      refine ⟨.str z0, rfl, .int i, rfl, .int z, rfl, i, z, rfl, rfl, .inr z0, .int (i + z), rfl, qp, upd_same, (upd_ne (Ne.symm qp)).trans upd_same, ?_⟩
      have hz2 : z0 ∈ ks2 := (b3 z0).mpr hm
      have kdD : KD (mergeK v2 [(.inr z0, .int (i + z))]) ks2 := by
        have := b1.put z0 (.int (i + z))
        rw [addK, if_pos hz2] at this
        exact this
      have hval : ∀ s ∈ ks2, valV (mergeK v2 [(.inr z0, .int (i + z))]) (.inr s) = valV (putK kvs (.inr z0) (.int (i + z))) (.inr s) := fun s hs => by
        show valV (putK v2 (.inr z0) (.int (i + z))) (.inr s) = _
        rw [lookK, lookK]
        split
        · rfl
        · exact b4 s ((b3 s).mp hs)
      revert kdD hval
      generalize mergeK v2 [(.inr z0, .int (i + z))] = kvD
      intro kdD hval
      have eb : ∀ (o1 o2 o3 o4 o5 : HO), Evl.Ex H2 (upd (upd (upd (upd (upd H2 p o1) p o2) q o3) q o4) p o5) := fun o1 o2 o3 o4 o5 c o hc => by
        obtain ⟨n1, n2⟩ := c1 c o hc
        rw [upd_ne n1, upd_ne n2, upd_ne n2, upd_ne n1, upd_ne n1]
        exact hc
      have eb := eb (.dK []) (.dK v2) (.dK []) (.dK (mergeK [] [(.inr z0, .int (i + z))])) (.dK kvD)
      have hpD : (upd (upd (upd (upd (upd H2 p (.dK [])) p (.dK v2)) q (.dK [])) q (.dK (mergeK [] [(.inr z0, .int (i + z))]))) p (.dK kvD)) p = some (.dK kvD) := upd_same
      revert eb hpD
      generalize upd (upd (upd (upd (upd H2 p (.dK [])) p (.dK v2)) q (.dK [])) q (.dK (mergeK [] [(.inr z0, .int (i + z))]))) p (.dK kvD) = H5
      intro eb hpD
      have e5 := e12.trans eb
      have hperm : ks2.Perm ks := (List.perm_ext_iff_of_nodup b2 hn).mpr b3
      have hsr := srt_of_perm hperm
      have amD : ∀ s ∈ ks2, ∃ j, amt kvD s = .int j ∧ 0 ≤ j := fun s hs => by
        unfold amt
        rw [hval s hs, lookK]
        obtain ⟨j, hj, j0, _⟩ := hS s ((b3 s).mp hs)
        split
        · exact ⟨i + z, rfl, by omega⟩
        · rw [hk.amtV ((b3 s).mp hs), hj]
          exact ⟨j, rfl, j0⟩
      refine ⟨.ref x, rfl, x, CP, dx, _, .int ui, rfl, e5 _ _ h1, cls, noU, rfl, rfl, rfl, fun y dy ny ndy nyd => ?_⟩
      have e0 : Evl.Ex H5 (upd (upd H5 dy (.own y)) y (.ins CP dy [])) := (Evl.Ex.new ndy).trans (Evl.Ex.new (by rw [upd_ne (Ne.symm nyd)]; exact ny))
      refine ⟨y, dy, p, kvD, ks2, .int ui, rfl, upd_same, e0 _ _ hpD, kdD, fun s hs => hT s ((b3 s).mp hs), by rw [hperm.length_eq]; omega, fun pr hpr => ?_, .inl ⟨_, rfl⟩, ?_⟩
      · obtain ⟨s, hs, e⟩ := kdD.key hpr
        have h9 := kdD.val b2 hpr
        rw [e, kdD.amtV hs] at h9
        obtain ⟨j, hj, _⟩ := amD s hs
        exact .inl ⟨j, by rw [← Option.some.inj h9, hj]⟩
      · unfold initAt
        rw [hsr, pres_ok hg (fun s hs => ?_) (by simp [whole]; exact hu0)]
        · intro H3 g3' m3 kvs3 fr ng nm hx3 hg3 hm3 hs3
          refine ⟨rfl, hQ z hm rfl hz0 H3 y (e5.trans (FrX.ofMake ny ndy fr)) ⟨dy, g3', m3, kvs3, Evl.fresh_back e5 ny, Evl.fresh_back (e5.trans e0) ng, Evl.fresh_back (e5.trans e0) nm, hx3, hg3, hm3, ?_⟩⟩
          obtain ⟨ks3, d1, d2, d3, d4⟩ := hs3
          refine ⟨ks3, d1, d2, fun s => (d3 s).trans (b3 s), fun s hs => ?_⟩
          have hs2' := (b3 s).mpr hs
          rw [d4 s hs2', hval s hs2', hi]
          rfl
        · obtain ⟨j, hj, j0⟩ := amD s ((b3 s).mpr (srt_mem.mp hs))
          rw [hj]
          exact decide_eq_true j0
end
end Lw

namespace Lw
open PySem PySem.Spec PyProof.Rows L2
/-! ### what the told lists hold -/
inductive LI where
  | v (v : V) | tS (ws : List Str) | dc (kvs : List (Key × V)) (ks : List Str)
def ItAt (H : Hp) : LI → V → Prop
  | .v v, x => x = v
  | .tS ws, x => ∃ g, x = .ref g ∧ H g = some (.tup (ws.map V.str))
  | .dc kvs ks, x => ∃ m kv2, x = .ref m ∧ H m = some (.dK kv2) ∧ SameD kv2 kvs ks
def ItsAt (H : Hp) : List LI → List V → Prop
  | [], [] => True
  | i :: r, x :: t => ItAt H i x ∧ ItsAt H r t
  | _, _ => False
def LIok : LI → Prop
  | .v v => SameV v v
  | .tS ws => ∀ z ∈ ws, SOk z
  | .dc kvs ks => KD kvs ks ∧ ∀ s ∈ ks, SameV (amt kvs s) (amt kvs s)
def ToldAt (p : Addr) (its : List LI) (H : Hp) : Prop := ∃ xs, H p = some (.lst xs) ∧ ItsAt H its xs
theorem ItAt.ex {H H' : Hp} (e : Evl.Ex H H') {i : LI} {x : V} (h : ItAt H i x) : ItAt H' i x := by
  cases i with
  | v v => exact h
  | tS ws => obtain ⟨g, h1, h2⟩ := h; exact ⟨g, h1, e _ _ h2⟩
  | dc kvs ks => obtain ⟨m, kv2, h1, h2, h3⟩ := h; exact ⟨m, kv2, h1, e _ _ h2, h3⟩
theorem ItsAt.ex {H H' : Hp} (e : Evl.Ex H H') : ∀ {is : List LI} {xs : List V}, ItsAt H is xs → ItsAt H' is xs
  | [], [], _ => trivial
  | _ :: _, _ :: _, h => ⟨h.1.ex e, ItsAt.ex e h.2⟩
  | [], _ :: _, h => h.elim
  | _ :: _, [], h => h.elim
theorem ToldAt.ex {p : Addr} {its : List LI} {H H' : Hp} (e : Evl.Ex H H') (h : ToldAt p its H) : ToldAt p its H' := by
  obtain ⟨xs, h1, h2⟩ := h
  exact ⟨xs, e _ _ h1, h2.ex e⟩
theorem ItsAt.len {H : Hp} : ∀ {is : List LI} {xs : List V}, ItsAt H is xs → is.length = xs.length
  | [], [], _ => rfl
  | _ :: _, _ :: _, h => by rw [List.length_cons, List.length_cons, ItsAt.len h.2]
  | [], _ :: _, h => h.elim
  | _ :: _, [], h => h.elim
theorem ItsAt.at {H : Hp} : ∀ {is : List LI} {xs : List V}, ItsAt H is xs → ∀ (j : Nat) x, xs[j]? = some x → ∃ i, is[j]? = some i ∧ ItAt H i x
  | [], [], _, j, x, h => by simp at h
  | i :: _, y :: _, h, 0, x, hx => by
    cases hx
    exact ⟨i, rfl, h.1⟩
  | _ :: _, _ :: _, h, j + 1, x, hx => ItsAt.at h.2 j x hx
  | [], _ :: _, h, _, _, _ => h.elim
  | _ :: _, [], h, _, _, _ => h.elim
theorem sameV_int (i : Int) : SameV (.int i) (.int i) := .inl ⟨rfl, rfl, by simp [eqV]⟩
theorem sameV_str (i : Str) : SameV (.str i) (.str i) := .inl ⟨rfl, rfl, by simp [eqV]⟩
theorem sameV_bl (i : Bool) : SameV (.bl i) (.bl i) := .inl ⟨rfl, rfl, by simp [eqV]⟩
theorem SameD.two' {A B kvs : List (Key × V)} {ks : List Str} (a : SameD A kvs ks) (b : SameD B kvs ks) (hk : KD kvs ks) (am : ∀ s ∈ ks, SameV (amt kvs s) (amt kvs s)) : A.length = B.length ∧ ∀ p ∈ A, ∃ y, valV B p.1 = some y ∧ SameV p.2 y := by
  obtain ⟨k1, a1, a2, a3, a4⟩ := a
  obtain ⟨k2, b1, b2, b3, b4⟩ := b
  have hp : k1.Perm k2 := (List.perm_ext_iff_of_nodup a2 b2).mpr fun s => (a3 s).trans (b3 s).symm
  refine ⟨by rw [a1.len, b1.len, hp.length_eq], fun p hpm => ?_⟩
  obtain ⟨s, hs, e⟩ := a1.key hpm
  have hsk := (a3 s).mp hs
  have hv := hk.amtV hsk
  have h1 := a1.val a2 hpm
  rw [e, a4 s hsk, hv] at h1
  have h1 := Option.some.inj h1
  refine ⟨amt kvs s, by rw [e, b4 s hsk, hv], ?_⟩
  rw [← h1]
  exact am s hsk
theorem ItAt.eqs {X : Cx} {H : Hp} {i : LI} {x y : V} (hx : ItAt H i x) (hy : ItAt H i y) (ok : LIok i) : EqS 8 X H x y true := by
  cases i with
  | v v =>
    cases hx
    cases hy
    exact eqs_same ok
  | tS ws =>
    obtain ⟨g, rfl, h1⟩ := hx
    obtain ⟨g2, rfl, h2⟩ := hy
    have gd : GoodD 8 (.tuple (ws.map PyData.str)) := (good_strsT ok).mono (by decide)
    have := eqs_data (X := X) (n := 8) (H := H) (dp_strsT (K := X.K) (Evl.st_of h1)) (dp_strsT (K := X.K) (Evl.st_of h2)) gd gd
    rw [eqv_strsT, decide_eq_true rfl] at this
    exact this
  | dc kvs ks =>
    obtain ⟨m, A, rfl, h1, a⟩ := hx
    obtain ⟨m2, B, rfl, h2, b⟩ := hy
    obtain ⟨hl, hv⟩ := SameD.two' a b ok.1 ok.2
    exact eqs_dict (n := 6) h1 h2 hl fun p hp => by
      obtain ⟨y, hy, hs⟩ := hv p hp
      exact ⟨y, hy, eqs_same hs⟩
theorem ToldAt.ne {X : Cx} {p q : Addr} {its : List LI} {H : Hp} {Q : VK} (h1 : ToldAt p its H) (h2 : ToldAt q its H) (ok : ∀ i ∈ its, LIok i) (hq : Q (.bl false) H) : rNeL X 8 (.ref p) (.ref q) H Q := by
  obtain ⟨xs, hx, ix⟩ := h1
  obtain ⟨ys, hy, iy⟩ := h2
  refine ⟨p, q, xs, ys, fun _ => true, rfl, rfl, Evl.sq_of hx, Evl.sq_of hy, by rw [← ix.len, ← iy.len], fun j a b ha hb => ?_, ?_⟩
  · obtain ⟨i, e1, i1⟩ := ix.at j a ha
    obtain ⟨i', e2, i2⟩ := iy.at j b hb
    rw [e1] at e2
    cases e2
    exact i1.eqs i2 (ok i (List.mem_of_getElem? e1))
  · rw [show ((List.range xs.length).all fun _ => true) = true from List.all_eq_true.mpr fun _ _ => rfl]
    exact hq
/-- what raised tells -/
def raisedD (kvs : List (Key × V)) (s : Str) (b : V) : List (Key × V) := putK kvs (.inr s) (.int (toI (amt kvs s) + toI b))
def raisedL (kvs : List (Key × V)) (ks : List Str) (ui : Int) (s : Str) (b : V) : List LI :=
  if s ∉ ks then [.v (.str "unknown"), .v (.str s)] else if whole b 0 = false then [.v (.str "price"), .v b, .v (.bl (isBl b))]
  else [.v (.str "prices"), .dc (raisedD kvs s b) ks, .v (.int ui), .tS (srt ks), .v (.int (sumI (raisedD kvs s b) ks)), .v (amt (raisedD kvs s b) s)]
def scQ (v : V) (ui : Int) : Option Int := match v with
  | .int z => if 1 ≤ z ∧ z % ui = 0 then some (z / ui) else none
  | _ => none
def scaledL (kvs : List (Key × V)) (ks : List Str) (ui : Int) (v : V) : List LI := match scQ v ui with
  | none => [.v (.str "unit"), .v v, .v (.bl (isBl v))]
  | some q => [.v (.str "prices"), .dc (timesD kvs ks q) ks, .v v, .tS (srt ks), .v (.int (sumI (timesD kvs ks q) ks))]
theorem sum_perm {a b : List Int} (h : a.Perm b) : a.sum = b.sum := by
  induction h with
  | nil => rfl
  | cons x _ ih => simp [ih]
  | swap x y l => simp; omega
  | trans _ _ h1 h2 => exact h1.trans h2
theorem sumI_perm {kvs : List (Key × V)} {a b : List Str} (h : a.Perm b) : sumI kvs a = sumI kvs b := sum_perm (h.map _)
theorem raisedD_kd {kvs : List (Key × V)} {ks : List Str} {s : Str} {b : V} (hk : KD kvs ks) (hs : s ∈ ks) : KD (raisedD kvs s b) ks := by
  have := hk.put s (.int (toI (amt kvs s) + toI b))
  rw [addK, if_pos hs] at this
  exact this
theorem amt_put {kvs : List (Key × V)} {s z : Str} {v : V} : amt (putK kvs (.inr s) v) z = if z = s then v else amt kvs z := by
  unfold amt
  rw [lookK]
  by_cases h : z = s
  · subst h
    simp
  · rw [if_neg (fun e => h (Sum.inr.inj e)), if_neg h]
def Nat64 (kvs : List (Key × V)) (ks : List Str) : Prop := ∀ s ∈ ks, ∃ i, amt kvs s = .int i ∧ 0 ≤ i ∧ i < 2 ^ 64
theorem raisedD_int {kvs : List (Key × V)} {ks : List Str} {s : Str} {b : V} (hS : Nat64 kvs ks) (z : Str) (hz : z ∈ ks) : ∃ i, amt (raisedD kvs s b) z = .int i := by
  unfold raisedD
  rw [amt_put]
  split
  · exact ⟨_, rfl⟩
  · obtain ⟨i, hi, _⟩ := hS z hz
    exact ⟨i, hi⟩
theorem timesD_int {kvs : List (Key × V)} {ks : List Str} {q : Int} (hn : ks.Nodup) (z : Str) (hz : z ∈ ks) : ∃ i, amt (timesD kvs ks q) z = .int i := by
  unfold amt
  rw [timesD_amt hn hz]
  exact ⟨_, rfl⟩
theorem raisedL_ok {kvs : List (Key × V)} {ks : List Str} {ui : Int} {s : Str} {b : V} {H : Hp} (hk : KD kvs ks) (hT : TxtOk ks) (hS : Nat64 kvs ks) (hb : AmX H b) : ∀ i ∈ raisedL kvs ks ui s b, LIok i := by
  unfold raisedL
  split
  · intro i hi
    simp only [List.mem_cons, List.not_mem_nil, or_false] at hi
    rcases hi with rfl | rfl <;> exact sameV_str _
  · rename_i hs
    have hs : s ∈ ks := by simpa using hs
    split
    · intro i hi
      simp only [List.mem_cons, List.not_mem_nil, or_false] at hi
      rcases hi with rfl | rfl | rfl
      · exact sameV_str _
      · exact hb.same
      · exact sameV_bl _
    · intro i hi
      simp only [List.mem_cons, List.not_mem_nil, or_false] at hi
      rcases hi with rfl | rfl | rfl | rfl | rfl | rfl
      · exact sameV_str _
      · refine ⟨raisedD_kd hk hs, fun z hz => ?_⟩
        obtain ⟨i, hi⟩ := raisedD_int (s := s) (b := b) hS z hz
        rw [hi]
        exact sameV_int _
      · exact sameV_int _
      · exact fun z hz => (srt_ok hT z hz).2
      · exact sameV_int _
      · obtain ⟨i, hi⟩ := raisedD_int (s := s) (b := b) hS s hs
        show SameV (amt (raisedD kvs s b) s) _
        rw [hi]
        exact sameV_int _
theorem scaledL_ok {kvs : List (Key × V)} {ks : List Str} {ui : Int} {v : V} {H : Hp} (hn : ks.Nodup) (hT : TxtOk ks) (hb : AmX H v) : ∀ i ∈ scaledL kvs ks ui v, LIok i := by
  unfold scaledL
  split
  · intro i hi
    simp only [List.mem_cons, List.not_mem_nil, or_false] at hi
    rcases hi with rfl | rfl | rfl
    · exact sameV_str _
    · exact hb.same
    · exact sameV_bl _
  · intro i hi
    simp only [List.mem_cons, List.not_mem_nil, or_false] at hi
    rcases hi with rfl | rfl | rfl | rfl | rfl
    · exact sameV_str _
    · refine ⟨timesD_kd _ _ _, fun z hz => ?_⟩
      obtain ⟨i, hi⟩ := timesD_int (kvs := kvs) (q := by assumption) hn z hz
      rw [hi]
      exact sameV_int _
    · exact hb.same
    · exact fun z hz => (srt_ok hT z hz).2
    · exact sameV_int _
end Lw

namespace Lw
open PySem PySem.Spec PyProof.Rows L2
theorem rd_lock {H H' : Hp} {d b od} {u z : HO} (e : Evl.Ex (upd H d (.frz od u)) H') (hd : H d = some u) (hb : H b = some z) : Rd H' b z := by
  by_cases h : b = d
  · subst h
    rw [hd] at hb
    cases hb
    exact .inr ⟨od, e _ _ upd_same⟩
  · exact .inl (e _ _ (by rw [upd_ne h]; exact hb))
theorem ev_dgetR {td ty : TE} {σ : L2.St} {H : Hp} {a : Addr} {kvs : List (Key × V)} {s : Str} {v : V} (h1 : Evl.Ev td σ H (.ref a)) (h2 : Evl.Ev ty σ H (.str s)) (ha : Rd H a (.dK kvs)) (hv : valV kvs (.inr s) = some v) : Evl.Ev (tDGet td ty) σ H v :=
  fun H1 e Q q => h1 H1 e _ fun H2 e2 => h2 H2 (e.trans e2) _ fun H3 e3 => ⟨a, v, rfl, .inl ⟨kvs, .inr s, ha.elim (fun h => .inl ((e.trans (e2.trans e3)) _ _ h)) (fun ⟨o, h⟩ => .inr ⟨o, (e.trans (e2.trans e3)) _ _ h⟩), rfl, hv.symm⟩, q H3 (e2.trans e3)⟩
/-- t[j] of a pair that a slot names -/
theorem ev_pair {K : PySem.W.Frag} {σ : L2.St} {H : Hp} {t : Addr} {i : Nat} {xs : List V} {j : Nat} {v : V} (h0 : σ[i]? = some (some (.ref t))) (ht : H t = some (.tup xs)) (hj : xs[j]? = some v) : Evl.Ev (tOp (rIxT K) (tVar i) (tC (.int (j : Int)))) σ H v :=
  Evl.ev_op (Evl.ev_var h0) Evl.ev_c (Evl.rv_ixT (Evl.st_of ht) (atI_nat hj))
def sp_lcov : Sp := fun vs H Q _ => ∃ (t1 t2 d1 d2 : Addr) (kvs kvs' : List (Key × V)) (ks ks' : List Str) (ui uj : Int), vs = [.ref t1, .ref t2] ∧ H t1 = some (.tup [.ref d1, .int ui]) ∧ H t2 = some (.tup [.ref d2, .int uj]) ∧ H d1 = some (.dK kvs) ∧ H d2 = some (.dK kvs') ∧ KD kvs ks ∧ KD kvs' ks' ∧ (∀ s ∈ ks, s ∈ ks') ∧ Sml kvs ks ∧ Sml kvs' ks' ∧
  ∀ H1, Evl.Ex H H1 → Q (.bl (ks.all fun s => decide (toI (amt kvs' s) * ui ≤ toI (amt kvs s) * uj))) H1
abbrev s_law_covers : Stmt := topS 29
abbrev n_law_covers : List Str := ["_law_one", "_law_two", "_law_label"]
theorem sc_law_covers : FnScope n_law_covers ["_law_one", "_law_two"] (defScope s_law_covers) := ⟨rfl, rfl, rfl, by decide +kernel, rfl, by decide +kernel, by decide +kernel⟩
section
variable {P : Program} {w : World} {K : PySem.W.Frag} {mg : Str → Option Value} {base : Heap}
theorem ok_lcov {f : Addr} {fd : FuncData} {k : Nat} (F : Fun K "_law_covers" "_law_covers" s_law_covers f fd) : FnOk P w K mg base CX0 (k + 1) f fd ["_law_one", "_law_two"] sp_lcov := by
  refine F.ok sc_law_covers (fun vs H Q E h => ?_) (fun cdv A outer s H vs Q E hr h => ?_)
  · obtain ⟨t1, t2, d1, d2, kvs, kvs', ks, ks', ui, uj, rfl, _⟩ := h
    rfl
  · obtain ⟨t1, t2, d1, d2, kvs, kvs', ks, ks', ui, uj, rfl, ht1, ht2, hd1, hd2, hk, hk', hsub, hS, hS', hQ⟩ := h
    refine ⟨_, (pss_cons (ps_lock (ps_for PassesOwn.never rfl  (pi_keys (pe_ix ix_tup (pv 0) pe_int (fun _ _ => rfl))) (pg_name (i := 2) sc_law_covers.nd rfl (by first | exact .inl rfl | exact .inr rfl))
   (pss_one (ps_if (pt_cmpR op_lt (pe_op op_mul (pe_dget (hu_of hr) (pe_ix ix_tup (pv 0) pe_int (fun _ _ => rfl)) (pv 2) (fun _ _ => rfl)) (pe_ix ix_tup (pv 1) pe_int (fun _ _ => rfl))) (pe_op op_mul (pe_dget (hu_of hr) (pe_ix ix_tup (pv 1) pe_int (fun _ _ => rfl)) (pv 2) (fun _ _ => rfl)) (pe_ix ix_tup (pv 0) pe_int (fun _ _ => rfl))) (nomark _))
   (pss_one (ps_ret pe_bl))
   pss_nil))))
  (pss_one (ps_ret pe_bl))), ?_⟩
    refine ⟨d1, .dK kvs, hd1, trivial, fun od => ?_⟩
    have n1 : t1 ≠ d1 := fun e => by
      rw [e, hd1] at ht1
      cases ht1
    have n2 : t2 ≠ d1 := fun e => by
      rw [e, hd1] at ht2
      cases ht2
    have l1 : (upd H d1 (.frz od (.dK kvs))) t1 = some (.tup [.ref d1, .int ui]) := by rw [upd_ne n1]; exact ht1
    have l2 : (upd H d1 (.frz od (.dK kvs))) t2 = some (.tup [.ref d2, .int uj]) := by rw [upd_ne n2]; exact ht2
    have hkl := hk.len
    refine ev_pair (j := 0) rfl l1 rfl _ (Evl.Ex.refl _) _ fun H1 e1 => ⟨d1, od, rfl, .inl ⟨kvs, e1 _ _ upd_same, ?_⟩⟩
    refine for_it (walk_keys (kvs := kvs) (d := d1) (o := od)) (fun i σ' H' => ∃ a2, σ' = [some (.ref t1), some (.ref t2), a2] ∧ Evl.Ex (upd H d1 (.frz od (.dK kvs))) H' ∧ ∀ s ∈ ks.take i, toI (amt kvs' s) * ui ≤ toI (amt kvs s) * uj)
      ⟨none, rfl, e1, fun s hs => by simp at hs⟩ (fun i σ' H' hi ⟨_, _, e, _⟩ => e _ _ upd_same) (fun i y σ' H' H'' hil ⟨a2, es, e, hall⟩ hy => ?_) (fun σ' H' ⟨a2, es, e, hall⟩ => ?_)
    · subst es
      obtain ⟨rfl, k, v, hkv, rfl⟩ := hy
      have h3 : (kvs.map (·.1))[i]? = (ks.map Sum.inr)[i]? := by rw [show kvs.map (·.1) = ks.map Sum.inr from hk]
      rw [List.getElem?_map, List.getElem?_map, hkv] at h3
      obtain ⟨s, hs, hsk⟩ := Option.map_eq_some_iff.mp h3.symm
      have hsk : Sum.inr s = k := hsk
      subst hsk
      have hsm := List.mem_of_getElem? hs
      obtain ⟨a, ha, b1, b2⟩ := hS s hsm
      obtain ⟨b, hb, c1, c2⟩ := hS' s (hsub s hsm)
      have hv := hk.amtV hsm
      have hv' := hk'.amtV (hsub s hsm)
      rw [ha] at hv
      rw [hb] at hv'
      dsimp only [gName, List.set]
      refine Evl.s_when (b := decide (a * uj < b * ui)) (Evl.et_test (Evl.ev_op (Evl.ev_op (ev_dgetR (ev_pair (j := 0) rfl (e _ _ l1) rfl) (Evl.ev_var rfl) (rd_lock e hd1 hd1) hv) (ev_pair (j := 1) rfl (e _ _ l2) rfl) (Evl.rv_I (.inl ⟨b1, b2⟩))) (Evl.ev_op (ev_dgetR (ev_pair (j := 0) rfl (e _ _ l2) rfl) (Evl.ev_var rfl) (rd_lock e hd1 hd2) hv') (ev_pair (j := 1) rfl (e _ _ l1) rfl) (Evl.rv_I (.inl ⟨c1, c2⟩))) Evl.rv_I0)) (fun hlt H2 e2 => ?_) (fun hlt H2 e2 => ?_)
      · refine Evl.s_ret (v := .bl false) Evl.ev_c fun H3 e3 => ?_
        have e4 := (e.trans e2).trans e3
        refine ⟨e4 _ _ upd_same, ?_⟩
        have := hQ _ (Ex.lock hd1 e4)
        rw [show (ks.all fun s => decide (toI (amt kvs' s) * ui ≤ toI (amt kvs s) * uj)) = false from by
          rw [Bool.eq_false_iff]
          intro h
          have := List.all_eq_true.mp h s hsm
          rw [ha, hb] at this
          simp only [toI] at this
          have h1 := of_decide_eq_true this
          have h2 := of_decide_eq_true hlt
          omega] at this
        exact this
      · refine ⟨_, rfl, e.trans e2, fun z hz => ?_⟩
        rw [List.take_add_one, hs, List.mem_append] at hz
        rcases hz with hz | hz
        · exact hall z hz
        · have : z = s := by simpa using hz
          subst this
          rw [ha, hb]
          have h2 := of_decide_eq_false hlt
          show b * ui ≤ a * uj
          omega
    · subst es
      rw [hkl, List.take_length] at hall
      refine ⟨e _ _ upd_same, ?_⟩
      show tRet (tC (.bl true)) { nx := fun _ H' => Q .non H', rt := Q } [some (.ref t1), some (.ref t2), a2] (upd H' d1 (.dK kvs))
      refine Evl.s_ret (v := .bl true) Evl.ev_c fun H3 e3 => ?_
      have := hQ _ ((Ex.lock hd1 e).trans e3)
      rw [show (ks.all fun s => decide (toI (amt kvs' s) * ui ≤ toI (amt kvs s) * uj)) = true from List.all_eq_true.mpr fun s hs => decide_eq_true (hall s hs)] at this
      exact this
end
end Lw

namespace Lw
open PySem PySem.Spec PyProof.Rows L2
def sp_told (CP : Addr) : Sp := fun vs H Q _ => ∃ (x y : Addr) (kvs kvs' : List (Key × V)) (ks ks' : List Str) (ui uj : Int), vs = [.ref x, .ref y] ∧ PrAt CP x kvs ks (.int ui) H ∧ PrAt CP y kvs' ks' (.int uj) H ∧ KD kvs ks ∧ KD kvs' ks' ∧ TxtOk ks ∧ TxtOk ks' ∧ ks.length ≤ 5 ∧ ks'.length ≤ 5 ∧ Sml kvs ks ∧ Sml kvs' ks' ∧
  (srt ks ≠ srt ks' → ∀ H1 p g, Evl.Ex H H1 → H1 p = some (.lst [.str "unlike", .ref g]) → H1 g = some (.tup ((srt ks').map V.str)) → Q (.ref p) H1) ∧ (srt ks = srt ks' → ∀ H1 p, Evl.Ex H H1 → H1 p = some (.lst [.str "covers", .bl (covPr kvs ks ui kvs' uj)]) → Q (.ref p) H1)
abbrev s_law_told : Stmt := topS 30
abbrev n_law_told : List Str := ["_law_a", "_law_b", "_law_told_here", "e"]
theorem sc_law_told : FnScope n_law_told ["_law_a", "_law_b"] (defScope s_law_told) := ⟨rfl, rfl, rfl, by decide +kernel, rfl, by decide +kernel, by decide +kernel⟩
section
variable {P : Program} {w : World} {K : PySem.W.Frag} {mg : Str → Option Value} {base : Heap}
theorem ok_told {f CP CU fc : Addr} {fd fdc : FuncData} (F : Fun K "_law_told" "_law_told" s_law_told f fd)
    (X_UnlikeGoods : XfC K CU) (no_UnlikeGoods : PySem.W.findIn K (.ref CU) "names" = some none) (g_UnlikeGoods : mg "UnlikeGoods" = some (.ref CU)) (uu : PySem.W.exmOne K (.ref CU) (.ref CU) = some true)
    (c_Prices : Cls K CP) (me_Prices_covers : Meth K CP "covers" fc) (G_Prices_covers : FnOk P w K mg base (L2.CX P w) 5 fc fdc ["self", "other"] (sp_covers CP CU)) (b_Prices_covers : Binds K fdc ["self", "other"] [])
    (m_int : mg "int" = none) (m_isinstance : mg "isinstance" = none) (m_bool : mg "bool" = none) : FnOk P w K mg base CX0 7 f fd ["_law_a", "_law_b"] (sp_told CP) := by
  refine F.ok sc_law_told (fun vs H Q E h => ?_) (fun cdv A outer s H vs Q E hr h => ?_)
  · obtain ⟨x, y, kvs, kvs', ks, ks', ui, uj, rfl, _⟩ := h
    rfl
  · obtain ⟨x, y, kvs, kvs', ks, ks', ui, uj, rfl, hp, hp', hk, hk', hT, hT', hl, hl', hS, hS', hQ1, hQ2⟩ := h
    refine ⟨_, (pss_one (ps_try_named rfl rfl sc_law_told.nd takes0 (fun W pn xe tk _ => (pss_cons (ps_set (i := 2) sc_law_told.nd rfl (by first | exact .inl rfl | exact .inr rfl) (pe_methS (pv 0) c_Prices me_Prices_covers G_Prices_covers (hr.mono (by decide)) b_Prices_covers (fun σ => passAt tk σ) (pa_cons (pv 1) pa_nil)))
  (pss_one (ps_ret (pe_ix (k_ixL K) (pe_lst (pa_cons (pe_lst (pa_cons pe_str pa_nil)) (pa_cons (pe_lst (pa_cons pe_str (pa_cons (pv 2) pa_nil))) pa_nil))) (pe_callTy call_int1 (by rfl) m_int (by decide +kernel) (pa_cons (pe_callB (k_isi K) (by rfl) m_isinstance PyProof.Rows.boot_isinstance (pa_cons (pv 2) (pa_cons (pe_bltn (v := .ty "bool") (by rfl) m_bool (by decide +kernel) rfl) pa_nil))) pa_nil)) (fun _ _ => rfl)))))) (.cons ⟨by rfl, by decide, .inl g_UnlikeGoods⟩ (i := 3) rfl rfl (fun a oe cls d pn hz hf => (pss_one (ps_ret (pe_lst (pa_cons pe_str (pa_cons (pe_xf X_UnlikeGoods no_UnlikeGoods hz hf (pv 3)) pa_nil)))))) .nil))), ?_⟩
    obtain ⟨dx, g, m, v2, h1, h2, h3, h4⟩ := id hp
    refine ⟨.ref x, rfl, x, dx, _, rfl, h1, rfl, .ref y, rfl, x, y, kvs, kvs', ks, ks', ui, uj, rfl, hp, hp', hk, hk', hT, hT', hl, hl', hS, hS', fun hne H1 d g e1 hd hg => ?_, fun he H1 e1 => ?_⟩
    · refine ⟨true, uu, fun _ a na => ?_, (fun h => nomatch h)⟩
      exact ⟨_, rfl, rfl, rfl, d, _, .ref g, rfl, hd, by simp [List.lookup], by show (2 : Nat) ≤ sizeLine; decide, fun p np => hQ1 hne _ p g (e1.trans (Evl.Ex.new np)) upd_same ((Evl.Ex.new np) _ _ hg)⟩
    · dsimp only [gName, List.set]
      refine ⟨by show (1 : Nat) ≤ sizeLine; decide, fun p0 n0 => ?_⟩
      refine ⟨_, rfl, by show (2 : Nat) ≤ sizeLine; decide, fun p1 n1 => ?_⟩
      refine ⟨by show (2 : Nat) ≤ sizeLine; decide, fun p2 n2 => ?_⟩
      refine ⟨_, rfl, ⟨_, .ty "bool", .type "bool", .type "bool", true, rfl, .ty _, .base (.bl _), kit_ty (by decide +kernel), .inr ⟨true, rfl, ?_⟩⟩⟩
      refine ⟨p2, _, 1, .ref p1, rfl, rfl, Evl.sq_of upd_same, atI_nat (j := 1) rfl, ?_⟩
      exact hQ2 he _ p1 (((e1.trans (Evl.Ex.new n0)).trans (Evl.Ex.new n1)).trans (Evl.Ex.new n2)) ((Evl.Ex.new n2) _ _ upd_same)
end
end Lw

namespace Lw
open PySem PySem.Spec PyProof.Rows L2
theorem suite2 {σ : L2.St} {H : Hp} {a d C : Addr} {tag f : Str} {y : V} {C' : Addr} {i : Nat} {D : Ends} (hd : H d = some (.xd [(f, y)])) (hi : σ[i]? = some (some (.ref a))) (hC : C' = C)
    (k : ∀ p, H p = none → D.rt (.ref p) (upd H p (.lst [.str tag, y]))) : tRet (tLst (tCons (tC (.str tag)) (tCons (tXf a (.ref C) (some d) C' f (tVar i)) tNil))) D σ H := by
  subst hC
  exact ⟨_, hi, rfl, rfl, d, _, y, rfl, hd, by simp [List.lookup], by show (2 : Nat) ≤ sizeLine; decide, k⟩
theorem suite3 {K : PySem.W.Frag} {σ : L2.St} {H : Hp} {a d C : Addr} {tag f : Str} {y : V} {C' : Addr} {i : Nat} {D : Ends} (hd : H d = some (.xd [(f, y)])) (hy : AmX H y) (hi : σ[i]? = some (some (.ref a))) (hC : C' = C)
    (k : ∀ p, H p = none → D.rt (.ref p) (upd H p (.lst [.str tag, y, .bl (isBl y)]))) :
    tRet (tLst (tCons (tC (.str tag)) (tCons (tXf a (.ref C) (some d) C' f (tVar i)) (tCons (tCB (rIsi K) (tCons (tXf a (.ref C) (some d) C' f (tVar i)) (tCons (tC (.ty "bool")) tNil))) tNil)))) D σ H := by
  subst hC
  obtain ⟨t, h1, h2, _⟩ := hy.ty (K := K)
  exact ⟨_, hi, rfl, rfl, d, _, y, rfl, hd, by simp [List.lookup], _, hi, rfl, rfl, d, _, y, rfl, hd, by simp [List.lookup], y, .ty "bool", .type t, .type "bool", _, rfl, .ty _, h1, h2, by show (3 : Nat) ≤ sizeLine; decide, k⟩
theorem PrN.at {CP y : Addr} {kvs : List (Key × V)} {ks : List Str} {u : V} {H H1 : Hp} (h : PrN CP y kvs ks u H H1) : PrAt CP y kvs ks u H1 := by
  obtain ⟨dx, g, m, k2, _, _, _, h1, h2, h3, h4⟩ := h
  exact ⟨dx, g, m, k2, h1, h2, h3, h4⟩
theorem isB_all {ks : List Str} : isB (srt ks) ((srt ks).map PyData.str) = true := by
  have := isB_few (ws := srt ks) (k := (srt ks).length)
  rw [List.take_length] at this
  rw [this]
  exact decide_eq_true rfl
def sp_lraised (CP : Addr) : Sp := fun vs H Q _ => ∃ (x : Addr) (s : Str) (b : V) (kvs : List (Key × V)) (ks : List Str) (ui : Int), vs = [.ref x, .str s, b] ∧ PrAt CP x kvs ks (.int ui) H ∧ KD kvs ks ∧ ks.Nodup ∧ TxtOk ks ∧ gres (srt ks) = .ok ∧ Nat64 kvs ks ∧ 1 ≤ ui ∧ AmX H b ∧
  ∀ H1 p, Evl.Ex H H1 → ToldAt p (raisedL kvs ks ui s b) H1 → Q (.ref p) H1
def sp_lscaled (CP : Addr) : Sp := fun vs H Q _ => ∃ (x : Addr) (v : V) (kvs : List (Key × V)) (ks : List Str) (ui : Int), vs = [.ref x, v] ∧ PrAt CP x kvs ks (.int ui) H ∧ KD kvs ks ∧ ks.Nodup ∧ TxtOk ks ∧ gres (srt ks) = .ok ∧ Nat64 kvs ks ∧ 1 ≤ ui ∧ ui < 2 ^ 64 ∧ AmX H v ∧
  ∀ H1 p, Evl.Ex H H1 → ToldAt p (scaledL kvs ks ui v) H1 → Q (.ref p) H1
abbrev s_law_raised : Stmt := topS 31
abbrev n_law_raised : List Str := ["_law_a", "_law_label", "_law_more2", "_law_more", "e"]
theorem sc_law_raised : FnScope n_law_raised ["_law_a", "_law_label", "_law_more2"] (defScope s_law_raised) := ⟨rfl, rfl, rfl, by decide +kernel, rfl, by decide +kernel, by decide +kernel⟩
abbrev s_law_scaled : Stmt := topS 33
abbrev n_law_scaled : List Str := ["_law_a", "_law_whole", "_law_same", "e"]
theorem sc_law_scaled : FnScope n_law_scaled ["_law_a", "_law_whole"] (defScope s_law_scaled) := ⟨rfl, rfl, rfl, by decide +kernel, rfl, by decide +kernel, by decide +kernel⟩
section
variable {P : Program} {w : World} {K : PySem.W.Frag} {mg : Str → Option Value} {base : Heap}
theorem ok_lraised {f CP CN CA CB fi fg fu fa ft fr pg pu : Addr} {fd fdi fdg fdu fda fdt fdr : FuncData} (F : Fun K "_law_raised" "_law_raised" s_law_raised f fd)
    (X_UnknownName : XfC K CN) (X_BadPrice : XfC K CA) (no_UnknownName : PySem.W.findIn K (.ref CN) "name" = some none) (no_BadPrice : PySem.W.findIn K (.ref CA) "price" = some none)
    (g_UnknownName : mg "UnknownName" = some (.ref CN)) (g_BadPrice : mg "BadPrice" = some (.ref CA)) (nn : PySem.W.exmOne K (.ref CN) (.ref CN) = some true) (an : PySem.W.exmOne K (.ref CA) (.ref CN) = some false) (aa : PySem.W.exmOne K (.ref CA) (.ref CA) = some true)
    (c_Prices : Cls K CP) (me_Prices_raised : Meth K CP "raised" fr) (G_Prices_raised : FnOk P w K mg base (L2.CX P w) 6 fr fdr ["self", "good", "by"] (sp_raised CP CN CA)) (b_Prices_raised : Binds K fdr ["self", "good", "by"] [])
    (pr_Prices_goods : PropOf K CP "goods" pg fg) (G_Prices_goods : FnOk P w K mg base CX0 1 fg fdg ["self"] (getSp CP "_goods")) (b_Prices_goods : Binds K fdg ["self"] [])
    (pr_Prices_unit : PropOf K CP "unit" pu fu) (G_Prices_unit : FnOk P w K mg base CX0 1 fu fdu ["self"] (getSp CP "_unit")) (b_Prices_unit : Binds K fdu ["self"] [])
    (me_Prices_amounts : Meth K CP "amounts" fa) (G_Prices_amounts : FnOk P w K mg base CX0 1 fa fda ["self"] (sp_amounts CP)) (b_Prices_amounts : Binds K fda ["self"] [])
    (me_Prices_total : Meth K CP "total" ft) (G_Prices_total : FnOk P w K mg base (L2.CX P w) 3 ft fdt ["self", "bundle"] (sp_total K CP CB)) (b_Prices_total : Binds K fdt ["self", "bundle"] [])
    (ix_Prices : OwnIx K CP fi) (G_Prices_getitem : FnOk P w K mg base (L2.CX P w) 3 fi fdi ["self", "good"] (sp_geti CP CN)) (b_Prices_getitem : Binds K fdi ["self", "good"] [])
    (m_isinstance : mg "isinstance" = none) (m_bool : mg "bool" = none) : FnOk P w K mg base CX0 8 f fd ["_law_a", "_law_label", "_law_more2"] (sp_lraised CP) := by
  refine F.ok sc_law_raised (fun vs H Q E h => ?_) (fun cdv A outer s H vs Q E hr h => ?_)
  · obtain ⟨x, s, b, kvs, ks, ui, rfl, _⟩ := h
    rfl
  · obtain ⟨x, z, b, kvs, ks, ui, rfl, hp, hk, hn, hT, hg, hS, hu, hA, hQ⟩ := h
    refine ⟨_, (pss_one (ps_try_named rfl rfl sc_law_raised.nd takes0 (fun W pn xe tk _ => (pss_cons (ps_set (i := 3) sc_law_raised.nd rfl (by first | exact .inl rfl | exact .inr rfl) (pe_methS (pv 0) c_Prices me_Prices_raised G_Prices_raised (hr.mono (by decide)) b_Prices_raised (fun σ => passAt tk σ) (pa_cons (pv 1) (pa_cons (pv 2) pa_nil))))
  (pss_one (ps_ret (pe_lst (pa_cons pe_str (pa_cons (pe_meth0 (pv 3) c_Prices me_Prices_amounts G_Prices_amounts (hr.mono (by decide)) b_Prices_amounts .nil pass0) (pa_cons (pe_prop (pv 3) c_Prices pr_Prices_unit G_Prices_unit (hr.mono (by decide)) b_Prices_unit .nil pass0 rfl) (pa_cons (pe_prop (pv 3) c_Prices pr_Prices_goods G_Prices_goods (hr.mono (by decide)) b_Prices_goods .nil pass0 rfl) (pa_cons (pe_methS (pv 3) c_Prices me_Prices_total G_Prices_total (hr.mono (by decide)) b_Prices_total (fun σ => passAt tk σ) (pa_cons (pe_prop (pv 3) c_Prices pr_Prices_goods G_Prices_goods (hr.mono (by decide)) b_Prices_goods .nil pass0 rfl) pa_nil)) (pa_cons (pe_oix (pv 3) (pv 1) ix_Prices G_Prices_getitem (hr.mono (by decide)) b_Prices_getitem (fun σ => passAt tk σ)) pa_nil))))))))))) (.cons ⟨by rfl, by decide, .inl g_UnknownName⟩ (i := 4) rfl rfl (fun a oe cls d pn hz hf => (pss_one (ps_ret (pe_lst (pa_cons pe_str (pa_cons (pe_xf X_UnknownName no_UnknownName hz hf (pv 4)) pa_nil)))))) (.cons ⟨by rfl, by decide, .inl g_BadPrice⟩ (i := 4) rfl rfl (fun a oe cls d pn hz hf => (pss_one (ps_ret (pe_lst (pa_cons pe_str (pa_cons (pe_xf X_BadPrice no_BadPrice hz hf (pv 4)) (pa_cons (pe_callB (k_isi K) (by rfl) m_isinstance PyProof.Rows.boot_isinstance (pa_cons (pe_xf X_BadPrice no_BadPrice hz hf (pv 4)) (pa_cons (pe_bltn (v := .ty "bool") (by rfl) m_bool (by decide +kernel) rfl) pa_nil))) pa_nil))))))) .nil)))), ?_⟩
    obtain ⟨dx, g, m, v2, h1, h2, h3, h4⟩ := id hp
    have hl5 := (gres_ok.mp hg).1.2
    rw [srt_len] at hl5
    refine ⟨.ref x, rfl, x, dx, _, rfl, h1, rfl, .str z, rfl, b, rfl, x, z, b, kvs, ks, ui, rfl, hp, hk, hn, hT, hg, hS, hu, hA, fun hz H1 d e1 hd => ?_, fun hz hw H1 d e1 hd => ?_, fun i hz hb hi H1 y e1 hy => ?_⟩
    · refine ⟨true, nn, fun _ a na => suite2 hd rfl rfl fun p np => ?_, (fun h => nomatch h)⟩
      refine hQ _ p (e1.trans (Evl.Ex.new np)) ?_
      rw [raisedL, if_pos hz]
      exact ⟨_, upd_same, rfl, rfl, trivial⟩
    · refine ⟨false, an, (fun h => nomatch h), fun _ => ⟨true, aa, fun _ a na => suite3 hd (hA.ex e1) rfl rfl fun p np => ?_, (fun h => nomatch h)⟩⟩
      refine hQ _ p (e1.trans (Evl.Ex.new np)) ?_
      rw [raisedL, if_neg (by simpa using hz), if_pos hw]
      exact ⟨_, upd_same, rfl, rfl, rfl, trivial⟩
    · subst hb
      dsimp only [gName, List.set]
      have hw : whole (.int i) 0 = true := by simp [whole]; exact hi
      have hkD := raisedD_kd (b := .int i) hk hz
      have hint : ∀ s ∈ ks, ∃ j, amt (raisedD kvs z (.int i)) s = .int j := fun s hs => raisedD_int (s := z) (b := .int i) hS s hs
      have hat : PrAt CP y (raisedD kvs z (.int i)) ks (.int ui) H1 := hy.at
      obtain ⟨dy, gy, my, vy, y1, y2, y3, y4⟩ := id hat
      refine ⟨.ref y, rfl, y, dy, _, rfl, y1, rfl, y, raisedD kvs z (.int i), ks, .int ui, rfl, hat, fun p kv2 H2 e2 np hp2 hs2 => ?_⟩
      have y12 := e2 _ _ y1
      refine ⟨.ref y, rfl, y, dy, _, rfl, y12, ⟨y, dy, _, .int ui, rfl, y12, rfl, ?_⟩⟩
      refine ⟨.ref y, rfl, y, dy, _, rfl, y12, ⟨y, dy, _, .ref gy, rfl, y12, rfl, ?_⟩⟩
      refine ⟨.ref y, rfl, y, dy, _, rfl, y12, rfl, .ref y, rfl, y, dy, _, rfl, y12, ⟨y, dy, _, .ref gy, rfl, y12, rfl, ?_⟩⟩
      refine ⟨y, .ref gy, raisedD kvs z (.int i), ks, .int ui, rfl, hat.ex e2, hkD, hT, hl5, .inl ⟨gy, srt ks, rfl, e2 _ _ y2, isB_all, fun s hs => srt_mem.mp hs, by rw [srt_len]; omega, hint, fun H3 e3 => ?_⟩⟩
      refine ⟨.ref y, rfl, .str z, rfl, y, dy, _, rfl, e3 _ _ y12, y, z, raisedD kvs z (.int i), ks, .int ui, rfl, (hat.ex e2).ex e3, hkD, fun _ H4 e4 => ?_, fun h => absurd hz h⟩
      refine ⟨by show (6 : Nat) ≤ sizeLine; decide, fun l nl => ?_⟩
      have e24 := e2.trans (e3.trans e4)
      refine hQ _ l ((e1.trans e24).trans (Evl.Ex.new nl)) ?_
      rw [raisedL, if_neg (by simpa using hz), if_neg (by rw [hw]; decide)]
      refine ⟨_, upd_same, rfl, ⟨p, kv2, rfl, (Evl.Ex.new nl) _ _ ((e3.trans e4) _ _ hp2), hs2⟩, rfl, ⟨gy, rfl, (Evl.Ex.new nl) _ _ (e24 _ _ y2)⟩, ?_, rfl, trivial⟩
      show V.int _ = V.int _
      rw [sumI_perm (srt_perm ks)]
theorem ok_lscaled {f CP CU CB fg fu fa ft fr pg pu : Addr} {fd fdg fdu fda fdt fdr : FuncData} (F : Fun K "_law_scaled" "_law_scaled" s_law_scaled f fd)
    (X_BadUnit : XfC K CU) (no_BadUnit : PySem.W.findIn K (.ref CU) "value" = some none) (g_BadUnit : mg "BadUnit" = some (.ref CU)) (uu : PySem.W.exmOne K (.ref CU) (.ref CU) = some true)
    (c_Prices : Cls K CP) (me_Prices_in_unit : Meth K CP "in_unit" fr) (G_Prices_in_unit : FnOk P w K mg base (L2.CX P w) 6 fr fdr ["self", "unit"] (sp_scaled K CP CU)) (b_Prices_in_unit : Binds K fdr ["self", "unit"] [])
    (pr_Prices_goods : PropOf K CP "goods" pg fg) (G_Prices_goods : FnOk P w K mg base CX0 1 fg fdg ["self"] (getSp CP "_goods")) (b_Prices_goods : Binds K fdg ["self"] [])
    (pr_Prices_unit : PropOf K CP "unit" pu fu) (G_Prices_unit : FnOk P w K mg base CX0 1 fu fdu ["self"] (getSp CP "_unit")) (b_Prices_unit : Binds K fdu ["self"] [])
    (me_Prices_amounts : Meth K CP "amounts" fa) (G_Prices_amounts : FnOk P w K mg base CX0 1 fa fda ["self"] (sp_amounts CP)) (b_Prices_amounts : Binds K fda ["self"] [])
    (me_Prices_total : Meth K CP "total" ft) (G_Prices_total : FnOk P w K mg base (L2.CX P w) 3 ft fdt ["self", "bundle"] (sp_total K CP CB)) (b_Prices_total : Binds K fdt ["self", "bundle"] [])
    (m_isinstance : mg "isinstance" = none) (m_bool : mg "bool" = none) : FnOk P w K mg base CX0 8 f fd ["_law_a", "_law_whole"] (sp_lscaled CP) := by
  refine F.ok sc_law_scaled (fun vs H Q E h => ?_) (fun cdv A outer s H vs Q E hr h => ?_)
  · obtain ⟨x, v, kvs, ks, ui, rfl, _⟩ := h
    rfl
  · obtain ⟨x, v, kvs, ks, ui, rfl, hp, hk, hn, hT, hg, hS, hu, hu2, hA, hQ⟩ := h
    refine ⟨_, (pss_one (ps_try_named rfl rfl sc_law_scaled.nd takes0 (fun W pn xe tk _ => (pss_cons (ps_set (i := 2) sc_law_scaled.nd rfl (by first | exact .inl rfl | exact .inr rfl) (pe_methS (pv 0) c_Prices me_Prices_in_unit G_Prices_in_unit (hr.mono (by decide)) b_Prices_in_unit (fun σ => passAt tk σ) (pa_cons (pv 1) pa_nil)))
  (pss_one (ps_ret (pe_lst (pa_cons pe_str (pa_cons (pe_meth0 (pv 2) c_Prices me_Prices_amounts G_Prices_amounts (hr.mono (by decide)) b_Prices_amounts .nil pass0) (pa_cons (pe_prop (pv 2) c_Prices pr_Prices_unit G_Prices_unit (hr.mono (by decide)) b_Prices_unit .nil pass0 rfl) (pa_cons (pe_prop (pv 2) c_Prices pr_Prices_goods G_Prices_goods (hr.mono (by decide)) b_Prices_goods .nil pass0 rfl) (pa_cons (pe_methS (pv 2) c_Prices me_Prices_total G_Prices_total (hr.mono (by decide)) b_Prices_total (fun σ => passAt tk σ) (pa_cons (pe_prop (pv 2) c_Prices pr_Prices_goods G_Prices_goods (hr.mono (by decide)) b_Prices_goods .nil pass0 rfl) pa_nil)) pa_nil)))))))))) (.cons ⟨by rfl, by decide, .inl g_BadUnit⟩ (i := 3) rfl rfl (fun a oe cls d pn hz hf => (pss_one (ps_ret (pe_lst (pa_cons pe_str (pa_cons (pe_xf X_BadUnit no_BadUnit hz hf (pv 3)) (pa_cons (pe_callB (k_isi K) (by rfl) m_isinstance PyProof.Rows.boot_isinstance (pa_cons (pe_xf X_BadUnit no_BadUnit hz hf (pv 3)) (pa_cons (pe_bltn (v := .ty "bool") (by rfl) m_bool (by decide +kernel) rfl) pa_nil))) pa_nil))))))) .nil))), ?_⟩
    obtain ⟨dx, g, m, v2, h1, h2, h3, h4⟩ := id hp
    have hl5 := (gres_ok.mp hg).1.2
    rw [srt_len] at hl5
    refine ⟨.ref x, rfl, x, dx, _, rfl, h1, rfl, v, rfl, x, v, kvs, ks, ui, rfl, hp, hk, hn, hT, hg, hS, hu, hu2, hA, fun hz H1 d e1 hd => ?_, fun q hv hq H1 y e1 hy => ?_⟩
    · refine ⟨true, uu, fun _ a na => suite3 hd (hA.ex e1) rfl rfl fun p np => ?_, (fun h => nomatch h)⟩
      refine hQ _ p (e1.trans (Evl.Ex.new np)) ?_
      have : scQ v ui = none := by
        unfold scQ
        split
        · rename_i z
          rw [if_neg fun h => hz z rfl h.1 h.2]
        · rfl
      rw [scaledL, this]
      exact ⟨_, upd_same, rfl, rfl, rfl, trivial⟩
    · subst hv
      dsimp only [gName, List.set]
      have hkD := timesD_kd kvs ks q
      have hint : ∀ s ∈ ks, ∃ j, amt (timesD kvs ks q) s = .int j := fun s hs => timesD_int hn s hs
      have hat : PrAt CP y (timesD kvs ks q) ks (.int (ui * q)) H1 := hy.at
      obtain ⟨dy, gy, my, vy, y1, y2, y3, y4⟩ := id hat
      refine ⟨.ref y, rfl, y, dy, _, rfl, y1, rfl, y, timesD kvs ks q, ks, .int (ui * q), rfl, hat, fun p kv2 H2 e2 np hp2 hs2 => ?_⟩
      have y12 := e2 _ _ y1
      refine ⟨.ref y, rfl, y, dy, _, rfl, y12, ⟨y, dy, _, .int (ui * q), rfl, y12, rfl, ?_⟩⟩
      refine ⟨.ref y, rfl, y, dy, _, rfl, y12, ⟨y, dy, _, .ref gy, rfl, y12, rfl, ?_⟩⟩
      refine ⟨.ref y, rfl, y, dy, _, rfl, y12, rfl, .ref y, rfl, y, dy, _, rfl, y12, ⟨y, dy, _, .ref gy, rfl, y12, rfl, ?_⟩⟩
      refine ⟨y, .ref gy, timesD kvs ks q, ks, .int (ui * q), rfl, hat.ex e2, hkD, hT, hl5, .inl ⟨gy, srt ks, rfl, e2 _ _ y2, isB_all, fun s hs => srt_mem.mp hs, by rw [srt_len]; omega, hint, fun H3 e3 => ?_⟩⟩
      refine ⟨by show (5 : Nat) ≤ sizeLine; decide, fun l nl => ?_⟩
      have e24 := e2.trans e3
      refine hQ _ l ((e1.trans e24).trans (Evl.Ex.new nl)) ?_
      have : scQ (.int (ui * q)) ui = some q := by
        show (if 1 ≤ ui * q ∧ ui * q % ui = 0 then some (ui * q / ui) else none) = some q
        rw [if_pos]
        · rw [Int.mul_ediv_cancel_left _ (by omega)]
        · refine ⟨?_, by simp⟩
          have : 0 < ui * q := Int.mul_pos (by omega) (by omega)
          omega
      rw [scaledL, this]
      refine ⟨_, upd_same, rfl, ⟨p, kv2, rfl, (Evl.Ex.new nl) _ _ (e3 _ _ hp2), hs2⟩, rfl, ⟨gy, rfl, (Evl.Ex.new nl) _ _ (e24 _ _ y2)⟩, ?_, trivial⟩
      show V.int _ = V.int _
      rw [sumI_perm (srt_perm ks)]
end
end Lw

namespace Lw
open PySem PySem.Spec PyProof.Rows L2
theorem ex_upd_new {H H1 : Hp} {p : Addr} {o : HO} (e : Evl.Ex H H1) (np : H p = none) : Evl.Ex H (upd H1 p o) := fun c z hc => by
  rw [upd_ne (ne_of_none hc np)]
  exact e _ _ hc
theorem KD.no {kvs : List (Key × V)} {ks : List Str} {s : Str} (hk : KD kvs ks) (hs : s ∉ ks) : valV kvs (.inr s) = none := by
  cases hv : valV kvs (.inr s) with
  | none => rfl
  | some v =>
    have h1 := valV_in hv
    rw [show kvs.map (·.1) = ks.map Sum.inr from hk] at h1
    obtain ⟨z, hz, e⟩ := List.mem_map.mp h1
    cases e
    exact absurd hz hs
theorem KD.some {kvs : List (Key × V)} {ks : List Str} {s : Str} (hk : KD kvs ks) : (valV kvs (.inr s)).isSome = decide (s ∈ ks) := by
  by_cases hs : s ∈ ks
  · rw [hk.amtV hs, decide_eq_true hs]
    rfl
  · rw [hk.no hs, decide_eq_false hs]
    rfl
theorem ev_dnin {td ty : TE} {σ : L2.St} {H : Hp} {a : Addr} {kvs : List (Key × V)} {ks : List Str} {s : Str} (h1 : Evl.Ev td σ H (.ref a)) (h2 : Evl.Ev ty σ H (.str s)) (ha : H a = some (.dK kvs)) (hk : KD kvs ks) : Evl.Ev (tDNotIn ty td) σ H (.bl (!decide (s ∈ ks))) :=
  fun H1 e Q q => h2 H1 e _ fun H2 e2 => h1 H2 (e.trans e2) _ fun H3 e3 => ⟨a, _, rfl, DGet.k (k := .inr s) ((e.trans (e2.trans e3)) _ _ ha), by rw [hk.some]; exact q H3 (e2.trans e3)⟩
/-- what is no whole number from a least one on -/
theorem odd_of {b : V} {low : Int} : (!isIn b || (isBl b || decide (toI b < low))) = !whole b low := by
  cases b with
  | int i =>
    show (false || (false || decide (i < low))) = !decide (low ≤ i)
    by_cases h : i < low
    · rw [decide_eq_true h, decide_eq_false (by omega : ¬ low ≤ i)]
      rfl
    · rw [decide_eq_false h, decide_eq_true (by omega : low ≤ i)]
      rfl
  | _ => simp [whole, isIn, isBl]
def sp_rdue : Sp := fun vs H Q _ => ∃ (t d : Addr) (s : Str) (b : V) (kvs : List (Key × V)) (ks : List Str) (ui : Int), vs = [.ref t, .str s, b] ∧ H t = some (.tup [.ref d, .int ui]) ∧ H d = some (.dK kvs) ∧ KD kvs ks ∧ ks.Nodup ∧ ks.length ≤ 5 ∧ Nat64 kvs ks ∧ AmX H b ∧
  ∀ H1 p, Evl.Ex H H1 → ToldAt p (raisedL kvs ks ui s b) H1 → Q (.ref p) H1
abbrev s_law_raised_due : Stmt := topS 32
abbrev n_law_raised_due : List Str := ["_law_one", "_law_label", "_law_more2", "_law_costs_here", "_law_total", "_law_word"]
theorem sc_law_raised_due : FnScope n_law_raised_due ["_law_one", "_law_label", "_law_more2"] (defScope s_law_raised_due) := ⟨rfl, rfl, rfl, by decide +kernel, rfl, by decide +kernel, by decide +kernel⟩
section
variable {P : Program} {w : World} {K : PySem.W.Frag} {mg : Str → Option Value} {base : Heap}
theorem ok_rdue {f : Addr} {fd : FuncData} {k : Nat} (F : Fun K "_law_raised_due" "_law_raised_due" s_law_raised_due f fd)
    (m_isinstance : mg "isinstance" = none) (m_int : mg "int" = none) (m_bool : mg "bool" = none) (m_dict : mg "dict" = none) (m_sum : mg "sum" = none) (m_tuple : mg "tuple" = none) (m_sorted : mg "sorted" = none) : FnOk P w K mg base CX0 (k + 1) f fd ["_law_one", "_law_label", "_law_more2"] sp_rdue := by
  refine F.ok sc_law_raised_due (fun vs H Q E h => ?_) (fun cdv A outer s H vs Q E hr h => ?_)
  · obtain ⟨t, d, s, b, kvs, ks, ui, rfl, _⟩ := h
    rfl
  · obtain ⟨t, d, z, b, kvs, ks, ui, rfl, ht, hd, hk, hn, hl, hS, hA, hQ⟩ := h
    refine ⟨_, (pss_cons (ps_if (pt_cmp (pc_dnotin (hu_of hr) (pv 1) (pe_ix ix_tup (pv 0) pe_int (fun _ _ => rfl))))
   (pss_one (ps_ret (pe_lst (pa_cons pe_str (pa_cons (pv 1) pa_nil)))))
   pss_nil)
  (pss_cons (ps_if (PW.pt (pw_or (pt_not (pt_val (pe_callB call_isi (by rfl) m_isinstance PyProof.Rows.boot_isinstance (pa_cons (pv 2) (pa_cons (pe_bltn (v := .ty "int") (by rfl) m_int (by decide +kernel) rfl) pa_nil))))) (pw_or (pt_val (pe_callB call_isi (by rfl) m_isinstance PyProof.Rows.boot_isinstance (pa_cons (pv 2) (pa_cons (pe_bltn (v := .ty "bool") (by rfl) m_bool (by decide +kernel) rfl) pa_nil)))) (pw_or1 (pt_cmpR op_lt (pv 2) pe_int (nomark _))))))
   (pss_one (ps_ret (pe_lst (pa_cons pe_str (pa_cons (pv 2) (pa_cons (pe_callB call_isi (by rfl) m_isinstance PyProof.Rows.boot_isinstance (pa_cons (pv 2) (pa_cons (pe_bltn (v := .ty "bool") (by rfl) m_bool (by decide +kernel) rfl) pa_nil))) pa_nil))))))
   pss_nil)
  (pss_cons (ps_set (i := 3) sc_law_raised_due.nd rfl (by first | exact .inl rfl | exact .inr rfl) (pe_callTy call_dictD (by rfl) m_dict (by decide +kernel) (pa_cons (pe_ix ix_tup (pv 0) pe_int (fun _ _ => rfl)) pa_nil)))
  (pss_cons (ps_dput (hu_of hr) (pv 3) (pv 1) (pe_op op_add (pe_dget (hu_of hr) (pv 3) (pv 1) (fun _ _ => rfl)) (pv 2)) rfl)
  (pss_cons (ps_set (i := 4) sc_law_raised_due.nd rfl (by first | exact .inl rfl | exact .inr rfl) (pe_callB (cr_sum rfl) (by rfl) m_sum (by decide +kernel) (pa_cons (pe_lock (pe_lc (own := [("_law_word", 5)]) (g := gName 5) (by rfl) sc_law_raised_due.nd (pi_keys (pv 3)) (blkOk_by (own := [("_law_word", 5)]) (N := n_law_raised_due) (sc := defScope s_law_raised_due) (by decide +kernel)) (fun _ _ _ _ _ => pg_name (i := 5) sc_law_raised_due.nd rfl (by first | exact .inl rfl | exact .inr rfl)) (fun _ _ _ _ _ => pts_nil) (fun _ _ _ _ _ => (pe_dget (hu_of hr) (pv 3) (pv 5) (fun _ _ => rfl))))) pa_nil)))
  (pss_one (ps_ret (pe_lst (pa_cons pe_str (pa_cons (pv 3) (pa_cons (pe_ix ix_tup (pv 0) pe_int (fun _ _ => rfl)) (pa_cons (pe_callTy call_tuple_of (by rfl) m_tuple (by decide +kernel) (pa_cons (pe_callB (call_sortedD rfl) (by rfl) m_sorted (by decide +kernel) (pa_cons (pv 3) pa_nil)) pa_nil)) (pa_cons (pv 4) (pa_cons (pe_dget (hu_of hr) (pv 3) (pv 1) (fun _ _ => rfl)) pa_nil)))))))))))))), ?_⟩
    refine Evl.q_when (b := !decide (z ∈ ks)) (Evl.et_test (ev_dnin (ev_pair (j := 0) rfl ht rfl) (Evl.ev_var rfl) hd hk)) (fun hb H1 e1 => ?_) (fun hb H1 e1 => ?_)
    · refine Evl.s_retL (Evl.el_lst (Evl.ea_cons Evl.ev_c (Evl.ea_cons (Evl.ev_var rfl) Evl.ea_nil)) (by show 2 ≤ 100000; decide)) fun q H2 nq e2 hq => hQ H2 q (e1.trans e2) ?_
      rw [raisedL, if_pos (by simpa using hb)]
      exact ⟨_, hq, rfl, rfl, trivial⟩
    have hz : z ∈ ks := by simpa using hb
    refine Evl.q_when (b := !isIn b || (isBl b || decide (toI b < 0))) (Evl.et_or (Evl.et_not (Evl.et_test (Evl.ev_cb (Evl.ea_cons (Evl.ev_var rfl) (Evl.ea_cons Evl.ev_c Evl.ea_nil)) (rc_isI (hA.ex e1))))) fun h1 => Evl.et_or (Evl.et_test (Evl.ev_cb (Evl.ea_cons (Evl.ev_var rfl) (Evl.ea_cons Evl.ev_c Evl.ea_nil)) (rc_isB (hA.ex e1)))) fun h2 => ?_) (fun hb2 H2 e2 => ?_) (fun hb2 H2 e2 => ?_)
    · obtain ⟨i, rfl⟩ := int_of (by simpa using h1) h2
      exact Evl.et_test (Evl.ev_op (Evl.ev_var rfl) Evl.ev_c Evl.rv_I0)
    · rw [odd_of] at hb2
      have e12 := e1.trans e2
      refine Evl.s_retL (Evl.el_lst (Evl.ea_cons Evl.ev_c (Evl.ea_cons (Evl.ev_var rfl) (Evl.ea_cons (Evl.ev_cb (Evl.ea_cons (Evl.ev_var rfl) (Evl.ea_cons Evl.ev_c Evl.ea_nil)) (rc_isB (hA.ex e12))) Evl.ea_nil))) (by show 3 ≤ 100000; decide)) fun q H3 nq e3 hq => hQ H3 q (e12.trans e3) ?_
      rw [raisedL, if_neg (by simpa using hz), if_pos (by simpa using hb2)]
      exact ⟨_, hq, rfl, rfl, rfl, trivial⟩
    rw [odd_of] at hb2
    have hw : whole b 0 = true := by simpa using hb2
    obtain ⟨i, rfl, hi⟩ := whole_int hw
    have e12 := e1.trans e2
    refine ev_pair (j := 0) rfl (e12 _ _ ht) rfl H2 (Evl.Ex.refl _) _ fun H3 e3 => ⟨d, kvs, rfl, .inl ((e12.trans e3) _ _ hd), fun p np => ?_⟩
    dsimp only [gName, List.set]
    have e13 := e12.trans e3
    have np0 : H p = none := Evl.fresh_back e13 np
    obtain ⟨a, ha, a0, a1⟩ := hS z hz
    have hv := hk.amtV hz
    rw [ha] at hv
    refine Evl.ev_op (ev_dgetK (Evl.ev_var rfl) (Evl.ev_var rfl) upd_same hv) (Evl.ev_var rfl) Evl.rv_I0 _ (Evl.Ex.refl _) _ fun H4 e4 => ⟨.ref p, rfl, .str z, rfl, p, _, rfl, DPut.k (k := .inr z) (e4 _ _ upd_same) (Evl.sz_lt (by rw [hk.len]; omega)), ?_⟩
    have hpD : (upd H4 p (.dK (putK kvs (.inr z) (.int (a + i))))) p = some (.dK (raisedD kvs z (.int i))) := by
      rw [upd_same, raisedD, ha]
      rfl
    have e04 : Evl.Ex H (upd H4 p (.dK (putK kvs (.inr z) (.int (a + i))))) := ex_upd_new ((e13.trans (Evl.Ex.new np)).trans e4) np0
    revert hpD e04
    generalize upd H4 p (.dK (putK kvs (.inr z) (.int (a + i)))) = H5
    intro hpD e05
    have hkD := raisedD_kd (b := .int i) hk hz
    have hint : ∀ s ∈ ks, ∃ j, amt (raisedD kvs z (.int i)) s = .int j := fun s hs => raisedD_int (s := z) (b := .int i) hS s hs
    refine Evl.q_asg (v := .int (sumI (raisedD kvs z (.int i)) ks)) (ev_cbL (el_lcK (ks := ks) (fun s => V.int (toI (amt (raisedD kvs z (.int i)) s))) hpD hkD (fun od => Evl.ev_var rfl) (by omega) (fun _ => rfl) fun od s H6 e6 hs => ?_) fun q H6 hq e6 H7 e7 Q k => ⟨q, ks.map fun s => toI (amt (raisedD kvs z (.int i)) s), rfl, by rw [List.map_map]; exact Evl.sq_of (e7 _ _ hq), k H7 (Evl.Ex.refl _)⟩) (fun H6 e6 => ?_)
    · obtain ⟨j, hj⟩ := hint s hs
      have hv := hkD.amtV hs
      rw [hj] at hv ⊢
      exact ev_dgetR (Evl.ev_var rfl) (Evl.ev_var rfl) (rd_lock e6 hpD hpD) hv
    have e06 := e05.trans e6
    have hp6 := e6 _ _ hpD
    obtain ⟨j, hj⟩ := hint z hz
    have hvz := hkD.amtV hz
    refine ⟨.ref p, rfl, ev_pair (j := 1) rfl (e06 _ _ ht) rfl _ (Evl.Ex.refl _) _ fun H7 e7 => ?_⟩
    refine ⟨.ref p, rfl, p, _, ks, rfl, .inl (e7 _ _ hp6), hkD, by omega, fun ys q hp hs nq => ?_⟩
    obtain rfl := srt_only hp hs
    refine ⟨q, _, rfl, .inl ⟨Evl.sq_of upd_same, fun tt nt => ?_⟩⟩
    have e79 := (Evl.Ex.new (o := .lst ((srt ks).map V.str)) nq).trans (Evl.Ex.new (o := .tup ((srt ks).map V.str)) nt)
    refine ⟨_, rfl, .ref p, rfl, .str z, rfl, p, _, rfl, by rw [← hvz]; exact DGet.k (k := .inr z) (e79 _ _ (e7 _ _ hp6)), by show (6 : Nat) ≤ sizeLine; decide, fun l nl => ?_⟩
    refine hQ _ l (((e06.trans e7).trans e79).trans (Evl.Ex.new nl)) ?_
    rw [raisedL, if_neg (by simpa using hz), if_neg (by rw [hw]; decide)]
    exact ⟨_, upd_same, rfl, ⟨p, _, rfl, (Evl.Ex.new nl) _ _ (e79 _ _ (e7 _ _ hp6)), ks, hkD, hn, fun _ => Iff.rfl, fun _ _ => rfl⟩, rfl, ⟨tt, rfl, (Evl.Ex.new nl) _ _ upd_same⟩, rfl, rfl, trivial⟩
end
end Lw

namespace Lw
open PySem PySem.Spec PyProof.Rows L2
theorem sc_none {v : V} {ui : Int} : (!isIn v || (isBl v || (decide (toI v < 1) || !decide (V.int (toI v % ui) = V.int 0)))) = (scQ v ui).isNone := by
  cases v with
  | int z =>
    show (false || (false || (decide (z < 1) || !decide (V.int (z % ui) = V.int 0)))) = (if 1 ≤ z ∧ z % ui = 0 then some (z / ui) else none).isNone
    by_cases h : z < 1
    · rw [decide_eq_true h, if_neg (by omega)]
      rfl
    · rw [decide_eq_false h]
      by_cases h2 : z % ui = 0
      · rw [if_pos ⟨by omega, h2⟩, h2]
        rfl
      · rw [if_neg (fun h => h2 h.2), decide_eq_false (fun e => h2 (V.int.inj e))]
        rfl
  | _ => rfl
theorem timesD_take {kvs : List (Key × V)} {ks : List Str} {q : Int} {i : Nat} {s : Str} (hn : ks.Nodup) (hs : ks[i]? = some s) : putK (timesD kvs (ks.take i) q) (.inr s) (.int (toI (amt kvs s) * q)) = timesD kvs (ks.take (i + 1)) q := by
  have hno : s ∉ ks.take i := fun h => by
    obtain ⟨hi, e⟩ := List.getElem?_eq_some_iff.mp hs
    have h2 : ks.take (i + 1) = ks.take i ++ [s] := by rw [List.take_add_one, hs]; rfl
    have h3 : (ks.take (i + 1)).Nodup := hn.sublist (List.take_sublist _ _)
    rw [h2] at h3
    exact (List.nodup_append.mp h3).2.2 _ h _ List.mem_cons_self rfl
  rw [putK_new _ ((timesD_kd kvs (ks.take i) q).no hno), List.take_add_one, hs]
  show _ = timesD kvs (ks.take i ++ [s]) q
  unfold timesD
  rw [List.map_append]
  rfl
def sp_sdue : Sp := fun vs H Q _ => ∃ (t d : Addr) (v : V) (kvs : List (Key × V)) (ks : List Str) (ui : Int), vs = [.ref t, v] ∧ H t = some (.tup [.ref d, .int ui]) ∧ H d = some (.dK kvs) ∧ KD kvs ks ∧ ks.Nodup ∧ ks.length ≤ 5 ∧ Nat64 kvs ks ∧ 1 ≤ ui ∧ ui < 2 ^ 64 ∧ AmX H v ∧ (∀ z, v = .int z → z < 2 ^ 64) ∧
  ∀ H1 p, Evl.Ex H H1 → ToldAt p (scaledL kvs ks ui v) H1 → Q (.ref p) H1
abbrev s_law_scaled_due : Stmt := topS 34
abbrev n_law_scaled_due : List Str := ["_law_one", "_law_whole", "_law_costs_here", "_law_label", "_law_word"]
theorem sc_law_scaled_due : FnScope n_law_scaled_due ["_law_one", "_law_whole"] (defScope s_law_scaled_due) := ⟨rfl, rfl, rfl, by decide +kernel, rfl, by decide +kernel, by decide +kernel⟩
section
variable {P : Program} {w : World} {K : PySem.W.Frag} {mg : Str → Option Value} {base : Heap}
theorem ok_sdue {f : Addr} {fd : FuncData} {k : Nat} (F : Fun K "_law_scaled_due" "_law_scaled_due" s_law_scaled_due f fd)
    (m_isinstance : mg "isinstance" = none) (m_int : mg "int" = none) (m_bool : mg "bool" = none) (m_sum : mg "sum" = none) (m_tuple : mg "tuple" = none) (m_sorted : mg "sorted" = none) : FnOk P w K mg base CX0 (k + 1) f fd ["_law_one", "_law_whole"] sp_sdue := by
  refine F.ok sc_law_scaled_due (fun vs H Q E h => ?_) (fun cdv A outer s H vs Q E hr h => ?_)
  · obtain ⟨t, d, v, kvs, ks, ui, rfl, _⟩ := h
    rfl
  · obtain ⟨t, d, v, kvs, ks, ui, rfl, ht, hd, hk, hn, hl, hS, hu1, hu2, hA, hV, hQ⟩ := h
    refine ⟨_, (pss_cons (ps_if (PW.pt (pw_or (pt_not (pt_val (pe_callB call_isi (by rfl) m_isinstance PyProof.Rows.boot_isinstance (pa_cons (pv 1) (pa_cons (pe_bltn (v := .ty "int") (by rfl) m_int (by decide +kernel) rfl) pa_nil))))) (pw_or (pt_val (pe_callB call_isi (by rfl) m_isinstance PyProof.Rows.boot_isinstance (pa_cons (pv 1) (pa_cons (pe_bltn (v := .ty "bool") (by rfl) m_bool (by decide +kernel) rfl) pa_nil)))) (pw_or (pt_cmpR op_lt (pv 1) pe_int (nomark _)) (pw_or1 (pt_cmpR op_ne (pe_op op_mod (pv 1) (pe_ix ix_tup (pv 0) pe_int (fun _ _ => rfl))) pe_int (nomark _)))))))
   (pss_one (ps_ret (pe_lst (pa_cons pe_str (pa_cons (pv 1) (pa_cons (pe_callB call_isi (by rfl) m_isinstance PyProof.Rows.boot_isinstance (pa_cons (pv 1) (pa_cons (pe_bltn (v := .ty "bool") (by rfl) m_bool (by decide +kernel) rfl) pa_nil))) pa_nil))))))
   pss_nil)
  (pss_cons (ps_set (i := 2) sc_law_scaled_due.nd rfl (by first | exact .inl rfl | exact .inr rfl) pe_dnewK)
  (pss_cons (ps_lock (ps_for PassesOwn.never rfl  (pi_keys (pe_ix ix_tup (pv 0) pe_int (fun _ _ => rfl))) (pg_name (i := 3) sc_law_scaled_due.nd rfl (by first | exact .inl rfl | exact .inr rfl))
   (pss_one (ps_dput (hu_of hr) (pv 2) (pv 3) (pe_op op_mul (pe_dget (hu_of hr) (pe_ix ix_tup (pv 0) pe_int (fun _ _ => rfl)) (pv 3) (fun _ _ => rfl)) (pe_op op_fdivW (pv 1) (pe_ix ix_tup (pv 0) pe_int (fun _ _ => rfl)))) rfl))))
  (pss_one (ps_ret (pe_lst (pa_cons pe_str (pa_cons (pv 2) (pa_cons (pv 1) (pa_cons (pe_callTy call_tuple_of (by rfl) m_tuple (by decide +kernel) (pa_cons (pe_callB (call_sortedD rfl) (by rfl) m_sorted (by decide +kernel) (pa_cons (pv 2) pa_nil)) pa_nil)) (pa_cons (pe_callB (cr_sum rfl) (by rfl) m_sum (by decide +kernel) (pa_cons (pe_lock (pe_lc (own := [("_law_word", 4)]) (g := gName 4) (by rfl) sc_law_scaled_due.nd (pi_keys (pv 2)) (blkOk_by (own := [("_law_word", 4)]) (N := n_law_scaled_due) (sc := defScope s_law_scaled_due) (by decide +kernel)) (fun _ _ _ _ _ => pg_name (i := 4) sc_law_scaled_due.nd rfl (by first | exact .inl rfl | exact .inr rfl)) (fun _ _ _ _ _ => pts_nil) (fun _ _ _ _ _ => (pe_dget (hu_of hr) (pv 2) (pv 4) (fun _ _ => rfl))))) pa_nil)) pa_nil))))))))))), ?_⟩
    refine Evl.q_when (b := !isIn v || (isBl v || (decide (toI v < 1) || !decide (V.int (toI v % ui) = V.int 0)))) (Evl.et_or (Evl.et_not (Evl.et_test (Evl.ev_cb (Evl.ea_cons (Evl.ev_var rfl) (Evl.ea_cons Evl.ev_c Evl.ea_nil)) (rc_isI hA)))) fun h1 => Evl.et_or (Evl.et_test (Evl.ev_cb (Evl.ea_cons (Evl.ev_var rfl) (Evl.ea_cons Evl.ev_c Evl.ea_nil)) (rc_isB hA))) fun h2 => ?_) (fun hb2 H2 e2 => ?_) (fun hb2 H2 e2 => ?_)
    · obtain ⟨i, rfl⟩ := int_of (by simpa using h1) h2
      exact Evl.et_or (Evl.et_test (Evl.ev_op (Evl.ev_var rfl) Evl.ev_c Evl.rv_I0)) fun _ => Evl.et_test (Evl.ev_op (Evl.ev_op (Evl.ev_var rfl) (ev_pair (j := 1) rfl ht rfl) (Evl.rv_I (show 0 < ui by omega))) Evl.ev_c (Evl.rv_ne rfl))
    · rw [sc_none] at hb2
      refine Evl.s_retL (Evl.el_lst (Evl.ea_cons Evl.ev_c (Evl.ea_cons (Evl.ev_var rfl) (Evl.ea_cons (Evl.ev_cb (Evl.ea_cons (Evl.ev_var rfl) (Evl.ea_cons Evl.ev_c Evl.ea_nil)) (rc_isB (hA.ex e2))) Evl.ea_nil))) (by show 3 ≤ 100000; decide)) fun q H3 nq e3 hq => hQ H3 q (e2.trans e3) ?_
      have : scQ v ui = none := by simpa using hb2
      rw [scaledL, this]
      exact ⟨_, hq, rfl, rfl, rfl, trivial⟩
    rw [sc_none] at hb2
    obtain ⟨q, hq⟩ : ∃ q, scQ v ui = some q := by
      cases h : scQ v ui with
      | none => rw [h] at hb2; cases hb2
      | some q => exact ⟨q, rfl⟩
    have hq' := hq
    unfold scQ at hq'
    split at hq'
    case h_2 => cases hq'
    rename_i z
    split at hq'
    case isFalse => cases hq'
    rename_i hz
    have hdq := Option.some.inj hq'
    have hcd : CDivW z ui := by
      have h64 : (2 : Nat) ^ 64 = 18446744073709551616 := by decide
      have := hV z rfl
      exact wide_div (b := 64) (by omega) (by omega) (by decide) (by decide)
    refine fun p np => ?_
    have np0 : H p = none := Evl.fresh_back e2 np
    have pt : t ≠ p := ne_of_none ht np0
    have pd : d ≠ p := ne_of_none hd np0
    dsimp only [gName, List.set]
    refine ⟨d, .dK kvs, (by rw [upd_ne pd]; exact e2 _ _ hd), trivial, fun od => ?_⟩
    have td : t ≠ d := fun e => by
      rw [e, hd] at ht
      cases ht
    have hLt : (upd (upd H2 p (.dK [])) d (.frz od (.dK kvs))) t = some (.tup [.ref d, .int ui]) := by
      rw [upd_ne td, upd_ne pt]
      exact e2 _ _ ht
    have hLo : ∀ c o, H2 c = some o → c ≠ d → (upd (upd H2 p (.dK [])) d (.frz od (.dK kvs))) c = some o := fun c o hc n => by
      rw [upd_ne n, upd_ne (ne_of_none hc np)]
      exact hc
    have hLd : (upd (upd H2 p (.dK [])) d (.frz od (.dK kvs))) d = some (.frz od (.dK kvs)) := upd_same
    have hLp : (upd (upd H2 p (.dK [])) d (.frz od (.dK kvs))) p = some (.dK []) := by
      rw [upd_ne (Ne.symm pd), upd_same]
    revert hLt hLo hLd hLp
    generalize upd (upd H2 p (.dK [])) d (.frz od (.dK kvs)) = HL
    intro hLt hLo hLd hLp
    have hkl := hk.len
    refine ev_pair (j := 0) rfl hLt rfl _ (Evl.Ex.refl _) _ fun H3 e3 => ⟨d, od, rfl, .inl ⟨kvs, e3 _ _ hLd, ?_⟩⟩
    refine for_it (walk_keys (kvs := kvs) (d := d) (o := od)) (fun i σ' H' => ∃ a3, σ' = [some (.ref t), some (.int z), some (.ref p), a3, none] ∧ (∀ c o, c ≠ p → HL c = some o → H' c = some o) ∧ H' p = some (.dK (timesD kvs (ks.take i) q)))
      ⟨none, rfl, fun c o _ hc => e3 _ _ hc, e3 _ _ hLp⟩ (fun i σ' H' hi ⟨_, _, e, _⟩ => e _ _ pd hLd) (fun i y σ' H' H'' hil ⟨a3, es, e, hp⟩ hy => ?_) (fun σ' H' ⟨a3, es, e, hp⟩ => ?_)
    · subst es
      obtain ⟨rfl, k, v, hkv, rfl⟩ := hy
      have h3 : (kvs.map (·.1))[i]? = (ks.map Sum.inr)[i]? := by rw [show kvs.map (·.1) = ks.map Sum.inr from hk]
      rw [List.getElem?_map, List.getElem?_map, hkv] at h3
      obtain ⟨s, hs, hsk⟩ := Option.map_eq_some_iff.mp h3.symm
      have hsk : Sum.inr s = k := hsk
      subst hsk
      have hsm := List.mem_of_getElem? hs
      obtain ⟨a, ha, b1, b2⟩ := hS s hsm
      have hv := hk.amtV hsm
      rw [ha] at hv
      dsimp only [gName, List.set]
      have htH := e _ _ pt hLt
      refine Evl.ev_op (ev_dgetR (ev_pair (j := 0) rfl htH rfl) (Evl.ev_var rfl) (.inr ⟨od, e _ _ pd hLd⟩) hv) (Evl.ev_op (Evl.ev_var rfl) (ev_pair (j := 1) rfl htH rfl) (Evl.rv_I hcd)) (Evl.rv_I (.inl ⟨by omega, by omega⟩)) _ (Evl.Ex.refl _) _ fun H4 e4 => ⟨.ref p, rfl, .str s, rfl, p, _, rfl, DPut.k (k := .inr s) (e4 _ _ hp) (Evl.sz_lt (by
        rw [(timesD_kd kvs (ks.take i) q).len, List.length_take]
        omega)), ?_⟩
      refine ⟨_, rfl, fun c o n hc => ?_, ?_⟩
      · rw [upd_ne n]
        exact e4 _ _ (e _ _ n hc)
      · rw [upd_same, ← timesD_take hn hs, hdq, ha]
        rfl
    · subst es
      rw [hkl, List.take_length] at hp
      refine ⟨e _ _ pd hLd, ?_⟩
      have e05 : Evl.Ex H (upd H' d (.dK kvs)) := fun c o hc => by
        by_cases hcd : c = d
        · subst hcd
          rw [upd_same, ← hd]
          exact hc
        · rw [upd_ne hcd]
          exact e _ _ (ne_of_none hc np0) (hLo _ _ (e2 _ _ hc) hcd)
      have hp5 : (upd H' d (.dK kvs)) p = some (.dK (timesD kvs ks q)) := by rw [upd_ne (Ne.symm pd)]; exact hp
      revert e05 hp5
      generalize upd H' d (.dK kvs) = H5
      intro e05 hp5
      have hkD := timesD_kd kvs ks q
      have hint : ∀ s ∈ ks, ∃ j, amt (timesD kvs ks q) s = .int j := fun s hs => timesD_int hn s hs
      refine ⟨.ref p, rfl, .int z, rfl, .ref p, rfl, p, _, ks, rfl, .inl hp5, hkD, by omega, fun ys q2 hpy hs nq => ?_⟩
      obtain rfl := srt_only hpy hs
      refine ⟨q2, _, rfl, .inl ⟨Evl.sq_of upd_same, fun tt nt => ?_⟩⟩
      have e79 := (Evl.Ex.new (o := .lst ((srt ks).map V.str)) nq).trans (Evl.Ex.new (o := .tup ((srt ks).map V.str)) nt)
      have hsum : Evl.Ev (tCB (rSum K) (tCons (tLockE (tLc (iKeys (tVar 2)) (gName 4) tYes (tDGet (tVar 2) (tVar 4)) [4])) tNil)) [some (.ref t), some (.int z), some (.ref p), a3, none] (upd (upd H5 q2 (.lst ((srt ks).map V.str))) tt (.tup ((srt ks).map V.str))) (.int (sumI (timesD kvs ks q) ks)) := by
        refine ev_cbL (el_lcK (ks := ks) (fun s => V.int (toI (amt (timesD kvs ks q) s))) (e79 _ _ hp5) hkD (fun od => Evl.ev_var rfl) (by omega) (fun _ => rfl) fun od s H6 e6 hs => ?_) fun q3 H6 hq3 e6 H7 e7 Q k => ⟨q3, ks.map fun s => toI (amt (timesD kvs ks q) s), rfl, by rw [List.map_map]; exact Evl.sq_of (e7 _ _ hq3), k H7 (Evl.Ex.refl _)⟩
        obtain ⟨j, hj⟩ := hint s hs
        have hv := hkD.amtV hs
        rw [hj] at hv ⊢
        exact ev_dgetR (Evl.ev_var rfl) (Evl.ev_var rfl) (rd_lock e6 (e79 _ _ hp5) (e79 _ _ hp5)) hv
      refine hsum _ (Evl.Ex.refl _) _ fun H8 e8 => ?_
      refine ⟨by show (5 : Nat) ≤ sizeLine; decide, fun l nl => ?_⟩
      refine hQ _ l (((e05.trans e79).trans e8).trans (Evl.Ex.new nl)) ?_
      rw [scaledL, hq]
      exact ⟨_, upd_same, rfl, ⟨p, _, rfl, (Evl.Ex.new nl) _ _ (e8 _ _ (e79 _ _ hp5)), ks, hkD, hn, fun _ => Iff.rfl, fun _ _ => rfl⟩, rfl, ⟨tt, rfl, (Evl.Ex.new nl) _ _ (e8 _ _ upd_same)⟩, rfl, trivial⟩
end
end Lw

namespace Lw
open PySem PySem.Spec PyProof.Rows L2
def sp_costsR (K : PySem.W.Frag) : Sp := fun vs H Q _ => ∃ (st g : Addr) (n : Nat) (ws : List Str) (scale : Int), vs = [.ref st, .ref g, .int scale] ∧ DS H st n ∧ n ≤ 800000000 ∧ SqL K H g (ws.map V.str) ∧ ws.length ≤ 1000 ∧ 0 < scale ∧ scale ≤ 100000000000000000000 ∧
  ∀ (d : Addr) (kvs : List (Key × V)) (ks : List Str) (H' : Hp), DS H' st (n + 2 * ws.length) → Kp st H H' → (∀ b o, Ap H st b o → b ≠ d) → Ap H' st d (.dK kvs) → KD kvs ks → ks.Nodup → ks.length ≤ ws.length → (∀ s, s ∈ ks ↔ s ∈ ws) → (∀ p ∈ kvs, ∃ i, p.2 = .int i ∧ 0 ≤ i ∧ i < scale) → Q (.ref d) H'
section
variable {P : Program} {w : World} {K : PySem.W.Frag} {mg : Str → Option Value} {base : Heap}
theorem ok_costsR {f f2 f3 : Addr} {fd fd2 fd3 : FuncData} (F : Fun K "_law_costs" "_law_costs" s_law_costs f fd)
    (F_law_draw : Fun K "_law_draw" "_law_draw" s_law_draw f2 fd2) (b_law_draw : Binds K fd2 ["_law_state", "_law_size"] []) (g_law_draw : mg "_law_draw" = some (.ref f2)) (G_law_draw : FnOk P w K mg base CX0 1 f2 fd2 ["_law_state", "_law_size"] sp_drawW)
    (F_law_order : Fun K "_law_order" "_law_order" s_law_order f3 fd3) (b_law_order : Binds K fd3 ["_law_state", "_law_items"] []) (g_law_order : mg "_law_order" = some (.ref f3)) (G_law_order : FnOk P w K mg base CX0 2 f3 fd3 ["_law_state", "_law_items"] (sp_order K))
    (m_list : mg "list" = none) : FnOk P w K mg base CX0 3 f fd ["_law_state", "_law_stock", "_law_scale"] (sp_costsR K) := by
  refine F.ok sc_law_costs (fun vs H Q E h => ?_) (fun cdv A outer s H vs Q E hr h => ?_)
  · obtain ⟨st, g, n, ws, scale, rfl, _⟩ := h
    rfl
  · obtain ⟨st, g, n, ws, scale, rfl, D, hn, hS, hL, s0, s1, hQ⟩ := h
    refine ⟨_, (pss_cons (ps_set (i := 3) sc_law_costs.nd rfl (by first | exact .inl rfl | exact .inr rfl) pe_dnewK)
  (pss_cons (ps_for PassesOwn.never rfl  (pi_list (pe_call G_law_order (hr.mono (by decide)) (by rfl) g_law_order F_law_order.kp b_law_order .nil pass0 (pa_cons (pv 0) (pa_cons (pe_callTy call_list_of (by rfl) m_list (by decide +kernel) (pa_cons (pv 1) pa_nil)) pa_nil)))) (pg_name (i := 4) sc_law_costs.nd rfl (by first | exact .inl rfl | exact .inr rfl))
   (pss_one (ps_dput (hu_of hr) (pv 3) (pv 4) (pe_call G_law_draw (hr.mono (by decide)) (by rfl) g_law_draw F_law_draw.kp b_law_draw .nil pass0 (pa_cons (pv 0) (pa_cons (pv 2) pa_nil))) rfl)))
  (pss_one (ps_ret (pv 3))))), ?_⟩
    intro d nd
    have D1 := D.new (o := .dK []) nd
    have k1 := D.newK (o := .dK []) nd
    have a1 := D.fresh (o := .dK []) nd
    refine ⟨.ref st, rfl, .ref g, rfl, g, ws.map V.str, rfl, .inl (Evl.ex_l (Evl.Ex.new nd) hS), fun l nl => ?_⟩
    have D2 := D1.new (o := .lst (ws.map V.str)) nl
    have k2 := D1.newK (o := .lst (ws.map V.str)) nl
    have a2 := k2 _ _ a1
    refine ⟨st, l, n, ws.map V.str, rfl, D2, by omega, Evl.sq_of upd_same, by rw [List.length_map]; exact hL, fun p ys H3 D3 k3 f3 a3 hp => ?_⟩
    rw [List.length_map] at D3
    obtain ⟨zs, rfl, hz⟩ := perm_strs hp
    have hzl := hz.length_eq
    have ad3 := k3 _ _ a2
    have ned : d ≠ p := f3 _ _ a2
    refine ⟨p, rfl, ⟨_, Evl.sq_of a3.1⟩, ?_⟩
    refine for_it (walk_list (xs := zs.map V.str)) (fun i σ' H' => ∃ a4 kvs ks, σ' = [some (.ref st), some (.ref g), some (.int scale), some (.ref d), a4] ∧ DS H' st (n + ws.length + i) ∧ Kp st H H' ∧ Ap H' st p (.lst (zs.map V.str)) ∧ Ap H' st d (.dK kvs) ∧ KD kvs ks ∧ ks.Nodup ∧ ks.length ≤ i ∧ (∀ s, s ∈ ks ↔ s ∈ zs.take i) ∧ (∀ p ∈ kvs, ∃ j, p.2 = .int j ∧ 0 ≤ j ∧ j < scale))
      ⟨none, [], [], rfl, D3, (k1.trans k2).trans k3, a3, ad3, rfl, List.nodup_nil, Nat.le_refl _, fun s => by simp, fun _ h => by cases h⟩ (fun i σ' H' _ h => ?_) (fun i x σ' H' H'' hi h y => ?_) (fun σ' H' h => ?_)
    · obtain ⟨a4, kvs, ks, _, _, _, h3, _⟩ := h
      exact Evl.sq_of h3.1
    · obtain ⟨a4, kvs, ks, rfl, Di, ki, ap, ad, hk, hnd, hkl, hm, hv⟩ := h
      obtain ⟨rfl, hx⟩ := y
      rw [List.length_map] at hi
      rw [List.getElem?_map] at hx
      obtain ⟨z, hz1, rfl⟩ := Option.map_eq_some_iff.mp hx
      refine ⟨.ref st, rfl, .int scale, rfl, st, scale, n + ws.length + i, rfl, Di, by omega, s0, s1, fun e H5 e0 e1 D5 k5 => ?_⟩
      have ad5 := k5 _ _ ad
      have ap5 := k5 _ _ ap
      refine ⟨.ref d, rfl, .str z, rfl, d, _, rfl, DPut.k (k := .inr z) ad5.1 (Evl.sz_lt (by rw [hk.len]; omega)), ?_⟩
      refine ⟨_, putK kvs (.inr z) (.int e), addK ks z, rfl, D5.put ad5, Kp.put (ki.trans k5) nd D5 ad5, Ap.put D5 ad5 ap5 ned.symm, D5.putA ad5, hk.put z _, addK_nd hnd, Nat.le_trans addK_len (by omega), fun s => ?_, fun q hq => ?_⟩
      · rw [addK_mem, hm, List.take_add_one, hz1, List.mem_append]
        simp
      · rcases put_mem hq with h | h
        · exact hv q h
        · exact ⟨e, h, e0, e1⟩
    · obtain ⟨a4, kvs, ks, rfl, Di, ki, ap, ad, hk, hnd, hkl, hm, hv⟩ := h
      rw [List.length_map] at Di hm hkl
      refine ⟨.ref d, rfl, hQ d kvs ks H' (Di.mono (by omega)) ki (fun b o hb => ne_of_none hb.1 nd) ad hk hnd (by omega) (fun s => ?_) hv⟩
      rw [hm, List.take_length]
      exact hz.mem_iff
end
end Lw

namespace Lw
open PySem PySem.Spec PyProof.Rows L2
def Rng (kvs : List (Key × V)) (ks : List Str) (B : Int) : Prop := ∀ s ∈ ks, ∃ i, amt kvs s = .int i ∧ 0 ≤ i ∧ i ≤ B
theorem Rng.mono {kvs : List (Key × V)} {ks : List Str} {B C : Int} (h : Rng kvs ks B) (hb : B ≤ C) : Rng kvs ks C := fun s hs => by
  obtain ⟨i, h1, h2, h3⟩ := h s hs
  exact ⟨i, h1, h2, by omega⟩
theorem Rng.put {kvs : List (Key × V)} {ks : List Str} {B i : Int} {s : Str} (h : Rng kvs ks B) (h0 : 0 ≤ i) (h1 : i ≤ B) : Rng (putK kvs (.inr s) (.int i)) (addK ks s) B := fun z hz => by
  rw [amt_put]
  by_cases hs : z = s
  · rw [if_pos hs]
    exact ⟨i, rfl, h0, h1⟩
  · rw [if_neg hs]
    exact h z ((addK_mem.mp hz).resolve_right hs)
theorem KD.drop {kvs : List (Key × V)} {ks : List Str} (h : KD kvs ks) (s : Str) : KD (dropK kvs (.inr s)) (ks.filter fun z => decide (z ≠ s)) := by
  unfold KD dropK at *
  induction kvs generalizing ks with
  | nil =>
    cases ks with
    | nil => rfl
    | cons => cases h
  | cons p r ih =>
    cases ks with
    | nil => cases h
    | cons k t =>
      obtain ⟨h1, h2⟩ := List.cons.inj h
      have ih := ih h2
      by_cases hk : k = s
      · subst hk
        rw [List.filter_cons_of_neg (by simp [h1]), List.filter_cons_of_neg (by simp)]
        exact ih
      · rw [List.filter_cons_of_pos (by simp [h1, hk]), List.filter_cons_of_pos (by simp [hk]), List.map_cons, List.map_cons, ih]
        exact congrArg (· :: _) h1
theorem amt_drop {kvs : List (Key × V)} {s z : Str} (h : z ≠ s) : amt (dropK kvs (.inr s)) z = amt kvs z := by
  unfold amt valV dropK
  congr 2
  induction kvs with
  | nil => rfl
  | cons p r ih =>
    by_cases hp : p.1 = .inr s
    · rw [List.filter_cons_of_neg (by simp [hp]), List.find?_cons_of_neg (by simp [hp]; exact fun e => h e.symm)]
      exact ih
    · rw [List.filter_cons_of_pos (by simp [hp]), List.find?_cons, List.find?_cons, ih]
theorem Rng.drop {kvs : List (Key × V)} {ks : List Str} {B : Int} {s : Str} (h : Rng kvs ks B) : Rng (dropK kvs (.inr s)) (ks.filter fun z => decide (z ≠ s)) B := fun z hz => by
  obtain ⟨h1, h2⟩ := List.mem_filter.mp hz
  rw [amt_drop (by simpa using h2)]
  exact h z h1
theorem filter_len {ks : List Str} {s : Str} (hn : ks.Nodup) (hs : s ∈ ks) : (ks.filter fun z => decide (z ≠ s)).length + 1 = ks.length := by
  induction ks with
  | nil => cases hs
  | cons k t ih =>
    obtain ⟨h1, h2⟩ := List.nodup_cons.mp hn
    by_cases hk : k = s
    · subst hk
      have hf : t.filter (fun z => decide (z ≠ k)) = t := List.filter_eq_self.mpr fun z hz => decide_eq_true fun (e : z = k) => h1 (by rw [← e]; exact hz)
      rw [List.filter_cons_of_neg (by simp), hf]
      rfl
    · rw [List.filter_cons_of_pos (by simp [hk]), List.length_cons, List.length_cons, ih h2 ((List.mem_cons.mp hs).resolve_left fun e => hk e.symm)]
theorem addK_len2 {ks : List Str} {s : Str} (hs : s ∈ ks) : addK ks s = ks := if_pos hs
/-- the dict under way -/
structure COk (kvs : List (Key × V)) (ks : List Str) : Prop where
  kd : KD kvs ks
  nd : ks.Nodup
  l1 : 1 ≤ ks.length
  l5 : ks.length ≤ 5
  vn : ∀ s ∈ ks, vn s = true
  rg : Rng kvs ks 10000000000000
theorem COk.put {kvs : List (Key × V)} {ks : List Str} (c : COk kvs ks) {s : Str} {i : Int} (hs : s ∈ ks) (h0 : 0 ≤ i) (h1 : i ≤ 10000000000000) : COk (putK kvs (.inr s) (.int i)) ks := by
  have e := addK_len2 hs
  refine ⟨by have := c.kd.put s (.int i); rw [e] at this; exact this, c.nd, c.l1, c.l5, c.vn, by have := c.rg.put (s := s) h0 h1; rw [e] at this; exact this⟩
theorem COk.add {kvs : List (Key × V)} {ks : List Str} (c : COk kvs ks) {s : Str} {i : Int} (hl : ks.length ≤ 4) (hv : Lw.vn s = true) (h0 : 0 ≤ i) (h1 : i ≤ 10000000000000) : COk (putK kvs (.inr s) (.int i)) (addK ks s) := by
  refine ⟨c.kd.put s _, addK_nd c.nd, ?_, Nat.le_trans addK_len (by omega), fun z hz => ?_, c.rg.put h0 h1⟩
  · unfold addK
    split
    · exact c.l1
    · rw [List.length_append]
      have := c.l1
      omega
  · rcases addK_mem.mp hz with h | h
    · exact c.vn z h
    · rw [h]
      exact hv
theorem COk.drop {kvs : List (Key × V)} {ks : List Str} (c : COk kvs ks) {s : Str} (hs : s ∈ ks) (hl : 2 ≤ ks.length) : COk (dropK kvs (.inr s)) (ks.filter fun z => decide (z ≠ s)) := by
  have hf := filter_len c.nd hs
  have := c.l5
  exact ⟨c.kd.drop s, c.nd.filter _, by omega, by omega, fun z hz => c.vn z (List.mem_filter.mp hz).1, c.rg.drop⟩
/-- one good goes, another one comes -/
theorem COk.swap {kvs : List (Key × V)} {ks : List Str} (c : COk kvs ks) {s z : Str} {i : Int} (hs : s ∈ ks) (hv : Lw.vn z = true) (h0 : 0 ≤ i) (h1 : i ≤ 10000000000000) : COk (putK (dropK kvs (.inr s)) (.inr z) (.int i)) (addK (ks.filter fun z => decide (z ≠ s)) z) := by
  have hf := filter_len c.nd hs
  have := c.l5
  refine ⟨(c.kd.drop s).put z _, addK_nd (c.nd.filter _), ?_, Nat.le_trans addK_len (by omega), fun y hy => ?_, c.rg.drop.put h0 h1⟩
  · exact List.length_pos_iff.mpr fun e => by
      have : z ∈ addK (ks.filter fun z => decide (z ≠ s)) z := addK_mem.mpr (.inr rfl)
      rw [e] at this
      cases this
  · rcases addK_mem.mp hy with h | h
    · exact c.vn y (List.mem_filter.mp h).1
    · rw [h]
      exact hv
theorem vn_zz9 : vn "zz9" = true := by decide +kernel
end Lw

namespace Lw
open PySem PySem.Spec PyProof.Rows L2
def sp_other : Sp := fun vs H Q _ => ∃ (st t d : Addr) (n : Nat) (kvs : List (Key × V)) (ks : List Str) (ui : Int), vs = [.ref st, .ref t] ∧ DS H st n ∧ n ≤ 700000000 ∧ Ap H st t (.tup [.ref d, .int ui]) ∧ Ap H st d (.dK kvs) ∧ KD kvs ks ∧ ks.Nodup ∧ 1 ≤ ks.length ∧ ks.length ≤ 5 ∧ TxtOk ks ∧ (∀ s ∈ ks, vn s = true) ∧ Rng kvs ks 999999999999 ∧ 1 ≤ ui ∧ ui ≤ 12 ∧
  ∀ (p d2 : Addr) (kvs2 : List (Key × V)) (ks2 : List Str) (u2 : Int) (H' : Hp), DS H' st (n + 60) → Kp st H H' → Ap H' st p (.tup [.ref d2, .int u2]) → Ap H' st d2 (.dK kvs2) → COk kvs2 ks2 → 1 ≤ u2 → u2 ≤ 100 → Q (.ref p) H'
abbrev s_law_other : Stmt := topS 35
abbrev n_law_other : List Str := ["_law_state", "_law_one", "_law_factor", "_law_costs_here", "_law_label", "_law_plan"]
theorem sc_law_other : FnScope n_law_other ["_law_state", "_law_one"] (defScope s_law_other) := ⟨rfl, rfl, rfl, by decide +kernel, rfl, by decide +kernel, by decide +kernel⟩
section
variable {P : Program} {w : World} {K : PySem.W.Frag} {mg : Str → Option Value} {base : Heap}
theorem ok_other {f f2 f3 : Addr} {fd fd2 fd3 : FuncData} (F : Fun K "_law_other" "_law_other" s_law_other f fd)
    (F_law_draw : Fun K "_law_draw" "_law_draw" s_law_draw f2 fd2) (b_law_draw : Binds K fd2 ["_law_state", "_law_size"] []) (g_law_draw : mg "_law_draw" = some (.ref f2)) (G_law_draw : FnOk P w K mg base CX0 1 f2 fd2 ["_law_state", "_law_size"] sp_draw)
    (F_law_order : Fun K "_law_order" "_law_order" s_law_order f3 fd3) (b_law_order : Binds K fd3 ["_law_state", "_law_items"] []) (g_law_order : mg "_law_order" = some (.ref f3)) (G_law_order : FnOk P w K mg base CX0 2 f3 fd3 ["_law_state", "_law_items"] (sp_order K))
    (m_sorted : mg "sorted" = none) (m_len : mg "len" = none) (m_max : mg "max" = none) : FnOk P w K mg base CX0 3 f fd ["_law_state", "_law_one"] sp_other := by
  refine F.ok sc_law_other (fun vs H Q E h => ?_) (fun cdv A outer s H vs Q E hr h => ?_)
  · obtain ⟨st, t, d, n, kvs, ks, ui, rfl, _⟩ := h
    rfl
  · obtain ⟨st, t, d, n, kvs, ks, ui, rfl, D, hn, ht, hd, hk, hnd, hl1, hl5, hT, hvn, hS, hu1, hu2, hQ⟩ := h
    refine ⟨_, (pss_cons (ps_set (i := 2) sc_law_other.nd rfl (by first | exact .inl rfl | exact .inr rfl) (pe_op op_add pe_int (pe_call G_law_draw (hr.mono (by decide)) (by rfl) g_law_draw F_law_draw.kp b_law_draw .nil pass0 (pa_cons (pv 0) (pa_cons pe_int pa_nil)))))
  (pss_cons (ps_set (i := 3) sc_law_other.nd rfl (by first | exact .inl rfl | exact .inr rfl) pe_dnewK)
  (Evl.pss_cut (ps_for PassesOwn.never rfl  (pi_list (pe_call G_law_order (hr.mono (by decide)) (by rfl) g_law_order F_law_order.kp b_law_order .nil pass0 (pa_cons (pv 0) (pa_cons (pe_callB (call_sortedD rfl) (by rfl) m_sorted (by decide +kernel) (pa_cons (pe_ix ix_tup (pv 1) pe_int (fun _ _ => rfl)) pa_nil)) pa_nil)))) (pg_name (i := 4) sc_law_other.nd rfl (by first | exact .inl rfl | exact .inr rfl))
   (pss_one (ps_dput (hu_of hr) (pv 3) (pv 4) (pe_op op_mul (pe_dget (hu_of hr) (pe_ix ix_tup (pv 1) pe_int (fun _ _ => rfl)) (pv 4) (fun _ _ => rfl)) (pv 2)) rfl)))
  (pss_cons (ps_set (i := 5) sc_law_other.nd rfl (by first | exact .inl rfl | exact .inr rfl) (pe_call G_law_draw (hr.mono (by decide)) (by rfl) g_law_draw F_law_draw.kp b_law_draw .nil pass0 (pa_cons (pv 0) (pa_cons pe_int pa_nil))))
  (pss_cons (ps_set (i := 4) sc_law_other.nd rfl (by first | exact .inl rfl | exact .inr rfl) (pe_ix ix_list (pe_callB (call_sortedD rfl) (by rfl) m_sorted (by decide +kernel) (pa_cons (pv 3) pa_nil)) (pe_call G_law_draw (hr.mono (by decide)) (by rfl) g_law_draw F_law_draw.kp b_law_draw .nil pass0 (pa_cons (pv 0) (pa_cons (pe_callB call_lenD (by rfl) m_len PySem.boot_len (pa_cons (pv 3) pa_nil)) pa_nil))) (fun _ _ => rfl)))
  (Evl.pss_cut (ps_if (pt_cmpR op_eq (pv 5) pe_int (nomark _))
   (pss_one (ps_dput (hu_of hr) (pv 3) (pv 4) (pe_op op_add (pe_dget (hu_of hr) (pv 3) (pv 4) (fun _ _ => rfl)) pe_int) rfl))
   pss_nil)
  (Evl.pss_cut (ps_if (pt_cmpR op_eq (pv 5) pe_int (nomark _))
   (pss_one (ps_dput (hu_of hr) (pv 3) (pv 4) (pe_callB (cr_max rfl) (by rfl) m_max (by decide +kernel) (pa_cons (pe_lst (pa_cons pe_int (pa_cons (pe_op op_sub (pe_dget (hu_of hr) (pv 3) (pv 4) (fun _ _ => rfl)) pe_int) pa_nil))) pa_nil)) rfl))
   pss_nil)
  (pss_cons (ps_if (pt_cmpR op_eq (pv 5) pe_int (nomark _))
   (pss_one (ps_ret (pe_tup (pa_cons (pv 3) (pa_cons (pe_callB (cr_max rfl) (by rfl) m_max (by decide +kernel) (pa_cons (pe_lst (pa_cons pe_int (pa_cons (pe_op op_add (pe_op op_sub (pe_op op_mul (pe_ix ix_tup (pv 1) pe_int (fun _ _ => rfl)) (pv 2)) pe_int) (pe_op op_mul pe_int (pe_call G_law_draw (hr.mono (by decide)) (by rfl) g_law_draw F_law_draw.kp b_law_draw .nil pass0 (pa_cons (pv 0) (pa_cons pe_int pa_nil))))) pa_nil))) pa_nil)) pa_nil)))))
   pss_nil)
  (Evl.pss_cut (ps_if (pt_cmpR op_eq (pv 5) pe_int (nomark _))
   (pss_one (ps_dput (hu_of hr) (pv 3) pe_str (pe_dpop1 (pv 3) (pv 4) ⟨rfl, rfl, rfl, rfl⟩) rfl))
   pss_nil)
  (Evl.pss_cut (ps_if (PW.pt (pw_and (pt_cmpR op_eq (pv 5) pe_int (nomark _)) (pw_and1 (pt_cmpR op_gt (pe_callB call_lenD (by rfl) m_len PySem.boot_len (pa_cons (pv 3) pa_nil)) pe_int (nomark _)))))
   (pss_one (ps_expr (pe_dpop1 (pv 3) (pv 4) ⟨rfl, rfl, rfl, rfl⟩)))
   pss_nil)
  (Evl.pss_cut (ps_if (PW.pt (pw_and (pt_cmpR op_eq (pv 5) pe_int (nomark _)) (pw_and1 (pt_cmpR op_lt (pe_callB call_lenD (by rfl) m_len PySem.boot_len (pa_cons (pv 3) pa_nil)) pe_int (nomark _)))))
   (pss_one (ps_dput (hu_of hr) (pv 3) pe_str (pe_call G_law_draw (hr.mono (by decide)) (by rfl) g_law_draw F_law_draw.kp b_law_draw .nil pass0 (pa_cons (pv 0) (pa_cons pe_int pa_nil))) rfl))
   pss_nil)
  (pss_one (ps_ret (pe_tup (pa_cons (pv 3) (pa_cons (pe_op op_mul (pe_ix ix_tup (pv 1) pe_int (fun _ _ => rfl)) (pv 2)) pa_nil)))))))))))))))), ?_⟩
    refine ⟨.ref st, rfl, st, 4, n, rfl, D, by omega, by omega, by omega, fun d1 H1 d10 d11 D1 k1 => ⟨1, d1, rfl, rfl, ?_⟩⟩
    have hf : 1 ≤ 1 + d1 ∧ 1 + d1 ≤ 4 := by omega
    dsimp only [gName, List.set]
    revert hf
    generalize 1 + d1 = ff
    intro hf
    refine fun c nc => ?_
    dsimp only [gName, List.set]
    have ht1 := k1 _ _ ht
    have hd1 := k1 _ _ hd
    have hct : t ≠ c := ne_of_none ht1.1 nc
    have hcd : d ≠ c := ne_of_none hd1.1 nc
    have D2 := D1.new (o := .dK []) nc
    have k2 := D1.newK (o := .dK []) nc
    have a2 := D1.fresh (o := .dK []) nc
    have ht2 := k2 _ _ ht1
    have hd2 := k2 _ _ hd1
    -- the loop
    refine ⟨fun σ' H' => ∃ a4 kvs2 ks2, σ' = [some (.ref st), some (.ref t), some (.int ff), some (.ref c), a4, none] ∧ DS H' st (n + 10) ∧ Kp st H1 H' ∧ Ap H' st c (.dK kvs2) ∧ COk kvs2 ks2 ∧ Rng kvs2 ks2 3999999999996, ?_, ?_⟩
    · refine ⟨.ref st, rfl, .ref t, rfl, ⟨t, _, 0, .ref d, rfl, rfl, Evl.st_of ht2.1, atI_nat (j := 0) rfl, ⟨d, kvs, ks, rfl, .inl hd2.1, hk, by omega, fun ys l hp hs nl => ?_⟩⟩⟩
      obtain rfl := srt_only hp hs
      have D3 := D2.new (o := .lst ((srt ks).map V.str)) nl
      have k3 := D2.newK (o := .lst ((srt ks).map V.str)) nl
      have a3 := k3 _ _ a2
      refine ⟨st, l, n + 1, (srt ks).map V.str, rfl, D3, by omega, Evl.sq_of upd_same, by rw [List.length_map, srt_len]; omega, fun p ys H3 D4 k4 f4 a4 hp => ?_⟩
      rw [List.length_map, srt_len] at D4
      obtain ⟨zs, rfl, hz⟩ := perm_strs hp
      have hz2 : zs.Perm ks := hz.trans (srt_perm ks)
      have hzl := hz2.length_eq
      have hzn : zs.Nodup := hz2.nodup_iff.mpr hnd
      have ac4 := k4 _ _ a3
      have ned : c ≠ p := f4 _ _ a3
      have k24 := (k2.trans k3).trans k4
      refine ⟨p, rfl, ⟨_, Evl.sq_of a4.1⟩, ?_⟩
      refine for_it (walk_list (xs := zs.map V.str)) (fun i σ' H' => ∃ a4 kvs2 ks2, σ' = [some (.ref st), some (.ref t), some (.int ff), some (.ref c), a4, none] ∧ DS H' st (n + 1 + ks.length) ∧ Kp st H1 H' ∧ Ap H' st p (.lst (zs.map V.str)) ∧ Ap H' st c (.dK kvs2) ∧ KD kvs2 ks2 ∧ ks2.Nodup ∧ ks2.length ≤ i ∧ (∀ s, s ∈ ks2 ↔ s ∈ zs.take i) ∧ Rng kvs2 ks2 3999999999996)
        ⟨none, [], [], rfl, D4, k24, a4, ac4, rfl, List.nodup_nil, Nat.le_refl _, fun s => by simp, fun s hs => by cases hs⟩ (fun i σ' H' _ h => ?_) (fun i x σ' H' H'' hi h y => ?_) (fun σ' H' h => ?_)
      · obtain ⟨a4, kvs2, ks2, _, _, _, h3, _⟩ := h
        exact Evl.sq_of h3.1
      · obtain ⟨a4, kvs2, ks2, rfl, Di, ki, ap, ad, hk2, hnd2, hkl2, hm2, hr2⟩ := h
        obtain ⟨rfl, hx⟩ := y
        rw [List.length_map] at hi
        rw [List.getElem?_map] at hx
        obtain ⟨z, hz1, rfl⟩ := Option.map_eq_some_iff.mp hx
        have hzm : z ∈ ks := hz2.mem_iff.mp (List.mem_of_getElem? hz1)
        obtain ⟨a, ha, a0, a1⟩ := hS z hzm
        have hv := hk.amtV hzm
        rw [ha] at hv
        have htH := ki _ _ ht1
        have hdH := ki _ _ hd1
        dsimp only [gName, List.set]
        have hb : 0 ≤ a * ff ∧ a * ff ≤ 3999999999996 := by
          refine ⟨Int.mul_nonneg a0 (by omega), ?_⟩
          have : a * ff ≤ 999999999999 * 4 := Int.mul_le_mul a1 hf.2 (by omega) (by omega)
          omega
        refine Evl.ev_op (ev_dgetK (ev_pair (K := K) (i := 1) (j := 0) rfl htH.1 rfl) (Evl.ev_var (i := 4) rfl) hdH.1 hv) (Evl.ev_var (i := 2) rfl) (Evl.rv_I (.inl ⟨by omega, by omega⟩)) _ (Evl.Ex.refl _) _ fun H5 e5 => ⟨.ref c, rfl, .str z, rfl, c, _, rfl, DPut.k (k := .inr z) (e5 _ _ ad.1) (Evl.sz_lt (by rw [hk2.len]; omega)), ?_⟩
        have D5 := Di.ex e5
        have k5 := Di.exK e5
        have ad5 := k5 _ _ ad
        have ap5 := k5 _ _ ap
        refine ⟨_, putK kvs2 (.inr z) (.int (a * ff)), addK ks2 z, rfl, D5.put ad5, Kp.put (ki.trans k5) nc D5 ad5, Ap.put D5 ad5 ap5 ned.symm, D5.putA ad5, hk2.put z _, addK_nd hnd2, Nat.le_trans addK_len (by omega), fun s => ?_, hr2.put hb.1 hb.2⟩
        rw [addK_mem, hm2, List.take_add_one, hz1, List.mem_append]
        simp
      · obtain ⟨a4, kvs2, ks2, rfl, Di, ki, ap, ad, hk2, hnd2, hkl2, hm2, hr2⟩ := h
        rw [List.length_map, List.take_length] at hm2
        have hperm : ks2.Perm ks := (List.perm_ext_iff_of_nodup hnd2 hnd).mpr fun s => (hm2 s).trans hz2.mem_iff
        have hlen := hperm.length_eq
        exact ⟨_, kvs2, ks2, rfl, Di.mono (by omega), ki, ad, ⟨hk2, hnd2, by omega, by omega, fun s hs => hvn s (hperm.mem_iff.mp hs), hr2.mono (by decide)⟩, hr2⟩
    clear D2 k2 a2 ht2 hd2
    rintro σ' H0 ⟨a4, kvs0, ks0, rfl, D0, k0, ac0, c0, r0⟩
    refine ⟨.ref st, rfl, st, 7, n + 10, rfl, D0, by omega, by omega, by omega, fun pl H2 p0 p1 D2 k2 => ?_⟩
    dsimp only [gName, List.set]
    have ac2 := k2 _ _ ac0
    have l1 := c0.l1
    have l5 := c0.l5
    refine ⟨.ref c, rfl, c, kvs0, ks0, rfl, .inl ac2.1, c0.kd, by omega, fun ys l hp hs nl => ?_⟩
    obtain rfl := srt_only hp hs
    have D3 := D2.new (o := .lst ((srt ks0).map V.str)) nl
    have k3 := D2.newK (o := .lst ((srt ks0).map V.str)) nl
    have ac3 := k3 _ _ ac2
    have al3 := D2.fresh (o := .lst ((srt ks0).map V.str)) nl
    have hkl := c0.kd.len
    refine ⟨.ref st, rfl, .ref c, rfl, c, kvs0, rfl, ac3.1, st, (kvs0.length : Int), n + 11, rfl, D3, by omega, by omega, by omega, fun dd H4 dd0 dd1 D4 k4 => ?_⟩
    have al4 := k4 _ _ al3
    obtain ⟨j, rfl⟩ : ∃ j : Nat, dd = (j : Int) := ⟨dd.toNat, by omega⟩
    have hj : j < (srt ks0).length := by rw [srt_len]; omega
    refine ⟨l, _, (j : Int), .str (srt ks0)[j], rfl, rfl, Evl.sq_of al4.1, atI_nat (by rw [List.getElem?_map, List.getElem?_eq_getElem hj]; rfl), ?_⟩
    have hlab : (srt ks0)[j] ∈ ks0 := srt_mem.mp (List.getElem_mem hj)
    revert hlab
    generalize (srt ks0)[j] = lab
    intro hlab
    dsimp only [gName, List.set]
    have k04 := ((k0.trans k2).trans (k3.trans k4))
    have ac4 := k4 _ _ ac3
    clear ac2 ac3 al3 al4 D3 k3 D2 k2 hp hs nl hj dd0 dd1 D0 k0 ac0
    -- 1: one amount greater by one
    refine ⟨fun σ' H' => ∃ kvs2 ks2, σ' = [some (.ref st), some (.ref t), some (.int ff), some (.ref c), some (.str lab), some (.int pl)] ∧ DS H' st (n + 20) ∧ Kp st H1 H' ∧ Ap H' st c (.dK kvs2) ∧ COk kvs2 ks2 ∧ lab ∈ ks2, ?_, ?_⟩
    · refine Evl.s_when (b := decide (V.int pl = V.int 1)) (Evl.et_test (Evl.ev_op (Evl.ev_var rfl) Evl.ev_c (Evl.rv_eq rfl))) (fun hb H5 e5 => ?_) (fun hb H5 e5 => ⟨kvs0, ks0, rfl, (D4.ex e5).mono (by omega), k04.trans (D4.exK e5), D4.exK e5 _ _ ac4, c0, hlab⟩)
      obtain ⟨a, ha, a0, a1⟩ := r0 lab hlab
      have hv := c0.kd.amtV hlab
      rw [ha] at hv
      have D5 := D4.ex e5
      have ac5 := D4.exK e5 _ _ ac4
      refine Evl.ev_op (ev_dgetK (Evl.ev_var rfl) (Evl.ev_var rfl) ac5.1 hv) Evl.ev_c Evl.rv_I0 _ (Evl.Ex.refl _) _ fun H6 e6 => ⟨.ref c, rfl, .str lab, rfl, c, _, rfl, DPut.k (k := .inr lab) (e6 _ _ ac5.1) (Evl.sz_lt (by omega)), ?_⟩
      have D6 := D5.ex e6
      have ac6 := D5.exK e6 _ _ ac5
      exact ⟨_, ks0, rfl, (D6.put ac6).mono (by omega), Kp.put ((k04.trans (D4.exK e5)).trans (D5.exK e6)) nc D6 ac6, D6.putA ac6, c0.put hlab (by omega) (by omega), hlab⟩
    clear D4 k04 ac4
    rintro σ' H4 ⟨kvs1, ks1, rfl, D4, k04, ac4, c1, hlab1⟩
    -- 2: one amount less by one
    refine ⟨fun σ' H' => ∃ kvs2 ks2, σ' = [some (.ref st), some (.ref t), some (.int ff), some (.ref c), some (.str lab), some (.int pl)] ∧ DS H' st (n + 20) ∧ Kp st H1 H' ∧ Ap H' st c (.dK kvs2) ∧ COk kvs2 ks2 ∧ lab ∈ ks2, ?_, ?_⟩
    · refine Evl.s_when (b := decide (V.int pl = V.int 2)) (Evl.et_test (Evl.ev_op (Evl.ev_var rfl) Evl.ev_c (Evl.rv_eq rfl))) (fun hb H5 e5 => ?_) (fun hb H5 e5 => ⟨kvs1, ks1, rfl, (D4.ex e5).mono (by omega), k04.trans (D4.exK e5), D4.exK e5 _ _ ac4, c1, hlab1⟩)
      obtain ⟨a, ha, a0, a1⟩ := c1.rg lab hlab1
      have hv := c1.kd.amtV hlab1
      rw [ha] at hv
      have D5 := D4.ex e5
      have ac5 := D4.exK e5 _ _ ac4
      have hkl1 := c1.kd.len
      have l51 := c1.l5
      refine Evl.ev_op (ev_dgetK (Evl.ev_var rfl) (Evl.ev_var rfl) ac5.1 hv) Evl.ev_c Evl.rv_I0 _ (Evl.Ex.refl _) _ fun H6 e6 => ?_
      refine ⟨by show (2 : Nat) ≤ sizeLine; decide, fun q nq => ⟨q, [0, a - 1], rfl, Evl.sq_of upd_same, by simp, fun m hm hle => ?_⟩⟩
      have hm0 : 0 ≤ m := hle 0 (by simp)
      have hm1 : m ≤ 10000000000000 := by
        simp only [List.mem_cons, List.not_mem_nil, or_false] at hm
        rcases hm with rfl | rfl <;> omega
      have D6 := (D5.ex e6).new (o := .lst [.int 0, .int (a - 1)]) nq
      have k56 := (D5.exK e6).trans ((D5.ex e6).newK (o := .lst [.int 0, .int (a - 1)]) nq)
      have ac6 := k56 _ _ ac5
      refine ⟨.ref c, rfl, .str lab, rfl, c, _, rfl, DPut.k (k := .inr lab) ac6.1 (Evl.sz_lt (by omega)), ?_⟩
      exact ⟨_, ks1, rfl, (D6.put ac6).mono (by omega), Kp.put ((k04.trans (D4.exK e5)).trans k56) nc D6 ac6, D6.putA ac6, c1.put hlab1 hm0 hm1, hlab1⟩
    clear D4 k04 ac4 c1 hlab1 c0 r0 hlab
    rintro σ' H4 ⟨kvs1, ks1, rfl, D4, k04, ac4, c1, hlab1⟩
    have hfm : 1 ≤ ui * ff ∧ ui * ff ≤ 48 := by
      have h1 : ui * ff ≤ 12 * 4 := Int.mul_le_mul hu2 hf.2 (by omega) (by omega)
      have h2 : 0 < ui * ff := Int.mul_pos (by omega) (by omega)
      omega
    -- 3: another unit
    refine Evl.q_when (b := decide (V.int pl = V.int 3)) (Evl.et_test (Evl.ev_op (Evl.ev_var rfl) Evl.ev_c (Evl.rv_eq rfl))) (fun hb H5 e5 => ?_) (fun hb H5 e5 => ?_)
    · have D5 := D4.ex e5
      have k5 := k04.trans (D4.exK e5)
      have ac5 := D4.exK e5 _ _ ac4
      have ht5 := k5 _ _ ht1
      refine ⟨.ref c, rfl, Evl.ev_op (Evl.ev_op (ev_pair (K := K) (i := 1) (j := 1) rfl ht5.1 rfl) (Evl.ev_var (i := 2) rfl) (Evl.rv_I (.inl ⟨by omega, by omega⟩))) Evl.ev_c Evl.rv_I0 _ (Evl.Ex.refl _) _ fun H6 e6 => ?_⟩
      have D6 := D5.ex e6
      have k6 := k5.trans (D5.exK e6)
      have ac6 := D5.exK e6 _ _ ac5
      refine ⟨.ref st, rfl, st, 2, n + 20, rfl, D6, by omega, by omega, by omega, fun e H7 e0 e1 D7 k7 => ⟨2, e, rfl, rfl, .inl ⟨by omega, by omega⟩, _, _, rfl, rfl, ?_⟩⟩
      refine ⟨by show (2 : Nat) ≤ sizeLine; decide, fun q nq => ⟨q, [1, ui * ff - 1 + 2 * e], rfl, Evl.sq_of upd_same, by simp, fun m hm hle => ?_⟩⟩
      have hm0 : 1 ≤ m := hle 1 (by simp)
      have hm1 : m ≤ 100 := by
        simp only [List.mem_cons, List.not_mem_nil, or_false] at hm
        rcases hm with rfl | rfl <;> omega
      have D8 := D7.new (o := .lst [.int 1, .int (ui * ff - 1 + 2 * e)]) nq
      have k8 := D7.newK (o := .lst [.int 1, .int (ui * ff - 1 + 2 * e)]) nq
      refine ⟨by show (2 : Nat) ≤ sizeLine; decide, fun p np => ?_⟩
      have k9 := D8.newK (o := .tup [.ref c, .int m]) np
      have kk := k7.trans (k8.trans k9)
      exact hQ p c kvs1 ks1 m _ ((D8.new np).mono (by omega)) (k1.trans (k6.trans kk)) (D8.fresh np) (kk _ _ ac6) c1 hm0 hm1
    have D5 := D4.ex e5
    have k05 := k04.trans (D4.exK e5)
    have ac5 := D4.exK e5 _ _ ac4
    clear D4 k04 ac4 e5 H4
    -- 4: another good
    refine ⟨fun σ' H' => ∃ kvs2 ks2, σ' = [some (.ref st), some (.ref t), some (.int ff), some (.ref c), some (.str lab), some (.int pl)] ∧ DS H' st (n + 30) ∧ Kp st H1 H' ∧ Ap H' st c (.dK kvs2) ∧ COk kvs2 ks2 ∧ (pl = 5 → lab ∈ ks2), ?_, ?_⟩
    · refine Evl.s_when (b := decide (V.int pl = V.int 4)) (Evl.et_test (Evl.ev_op (Evl.ev_var rfl) Evl.ev_c (Evl.rv_eq rfl))) (fun hb H6 e6 => ?_) (fun hb H6 e6 => ⟨kvs1, ks1, rfl, (D5.ex e6).mono (by omega), k05.trans (D5.exK e6), D5.exK e6 _ _ ac5, c1, fun _ => hlab1⟩)
      obtain ⟨a, ha, a0, a1⟩ := c1.rg lab hlab1
      have hv := c1.kd.amtV hlab1
      rw [ha] at hv
      have D6 := D5.ex e6
      have ac6 := D5.exK e6 _ _ ac5
      have hkl1 := c1.kd.len
      have l51 := c1.l5
      refine ⟨.ref c, rfl, c, rfl, .inl ⟨_, .inl ac6.1⟩, .str lab, rfl, kvs1, .inr lab, .int a, ac6.1, rfl, hv, .ref c, rfl, c, _, rfl, DPut.k (k := .inr "zz9") upd_same (Evl.sz_lt (Nat.lt_of_le_of_lt (dropK_le kvs1 (Sum.inr lab)) (show kvs1.length < 100000 by rw [hkl1]; omega))), ?_⟩
      have D7 := D6.put (u := .dK (dropK kvs1 (.inr lab))) ac6
      have ac7 := D6.putA (u := .dK (dropK kvs1 (.inr lab))) ac6
      have k7 := Kp.put (u := .dK (dropK kvs1 (.inr lab))) (k05.trans (D5.exK e6)) nc D6 ac6
      exact ⟨_, _, rfl, (D7.put ac7).mono (by omega), Kp.put k7 nc D7 ac7, D7.putA ac7, c1.swap hlab1 vn_zz9 a0 a1, fun h => by
        have : V.int pl = V.int 4 := of_decide_eq_true hb
        have := V.int.inj this
        omega⟩
    clear D5 k05 ac5 c1 hlab1
    rintro σ' H4 ⟨kvs2, ks2, rfl, D4, k04, ac4, c2, hlab2⟩
    have hkl2 := c2.kd.len
    have l52 := c2.l5
    -- 5: a good less
    refine ⟨fun σ' H' => ∃ kvs2 ks2, σ' = [some (.ref st), some (.ref t), some (.int ff), some (.ref c), some (.str lab), some (.int pl)] ∧ DS H' st (n + 30) ∧ Kp st H1 H' ∧ Ap H' st c (.dK kvs2) ∧ COk kvs2 ks2, ?_, ?_⟩
    · refine Evl.s_when (b := decide (V.int pl = V.int 5) && decide ((1 : Int) < (kvs2.length : Int))) (Evl.et_and (Evl.et_test (Evl.ev_op (Evl.ev_var rfl) Evl.ev_c (Evl.rv_eq rfl))) fun _ => Evl.et_test (Evl.ev_op (Evl.ev_cb (Evl.ea_cons (Evl.ev_var rfl) Evl.ea_nil) fun H5 e5 Q q => ⟨c, kvs2, rfl, e5 _ _ ac4.1, q H5 (Evl.Ex.refl _)⟩) Evl.ev_c Evl.rv_I0)) (fun hb H5 e5 => ?_) (fun hb H5 e5 => ⟨kvs2, ks2, rfl, (D4.ex e5).mono (by omega), k04.trans (D4.exK e5), D4.exK e5 _ _ ac4, c2⟩)
      obtain ⟨hb1, hb2⟩ := Bool.and_eq_true_iff.mp hb
      have hp5 : pl = 5 := V.int.inj (of_decide_eq_true hb1)
      have hl2 := of_decide_eq_true hb2
      have hm := hlab2 hp5
      obtain ⟨a, ha, a0, a1⟩ := c2.rg lab hm
      have hv := c2.kd.amtV hm
      rw [ha] at hv
      have D5 := D4.ex e5
      have ac5 := D4.exK e5 _ _ ac4
      refine ⟨.ref c, rfl, c, rfl, .inl ⟨_, .inl ac5.1⟩, .str lab, rfl, kvs2, .inr lab, .int a, ac5.1, rfl, hv, ?_⟩
      exact ⟨_, _, rfl, (D5.put ac5).mono (by omega), Kp.put (k04.trans (D4.exK e5)) nc D5 ac5, D5.putA ac5, c2.drop hm (by omega)⟩
    clear D4 k04 ac4 c2 hlab2 hkl2 l52
    rintro σ' H4 ⟨kvs2, ks2, rfl, D4, k04, ac4, c2⟩
    have hkl2 := c2.kd.len
    have l52 := c2.l5
    -- 6: a good more
    refine ⟨fun σ' H' => ∃ kvs2 ks2, σ' = [some (.ref st), some (.ref t), some (.int ff), some (.ref c), some (.str lab), some (.int pl)] ∧ DS H' st (n + 40) ∧ Kp st H1 H' ∧ Ap H' st c (.dK kvs2) ∧ COk kvs2 ks2, ?_, ?_⟩
    · refine Evl.s_when (b := decide (V.int pl = V.int 6) && decide ((kvs2.length : Int) < 5)) (Evl.et_and (Evl.et_test (Evl.ev_op (Evl.ev_var rfl) Evl.ev_c (Evl.rv_eq rfl))) fun _ => Evl.et_test (Evl.ev_op (Evl.ev_cb (Evl.ea_cons (Evl.ev_var rfl) Evl.ea_nil) fun H5 e5 Q q => ⟨c, kvs2, rfl, e5 _ _ ac4.1, q H5 (Evl.Ex.refl _)⟩) Evl.ev_c Evl.rv_I0)) (fun hb H5 e5 => ?_) (fun hb H5 e5 => ⟨kvs2, ks2, rfl, (D4.ex e5).mono (by omega), k04.trans (D4.exK e5), D4.exK e5 _ _ ac4, c2⟩)
      obtain ⟨hb1, hb2⟩ := Bool.and_eq_true_iff.mp hb
      have hl2 := of_decide_eq_true hb2
      have D5 := D4.ex e5
      have ac5 := D4.exK e5 _ _ ac4
      refine ⟨.ref st, rfl, st, 3, n + 30, rfl, D5, by omega, by omega, by omega, fun e H6 e0 e1 D6 k6 => ?_⟩
      have ac6 := k6 _ _ ac5
      refine ⟨.ref c, rfl, c, _, rfl, DPut.k (k := .inr "zz9") ac6.1 (Evl.sz_lt (by omega)), ?_⟩
      exact ⟨_, _, rfl, (D6.put ac6).mono (by omega), Kp.put ((k04.trans (D4.exK e5)).trans k6) nc D6 ac6, D6.putA ac6, c2.add (by omega) vn_zz9 e0 (by omega)⟩
    clear D4 k04 ac4 c2 hkl2 l52
    rintro σ' H4 ⟨kvs2, ks2, rfl, D4, k04, ac4, c2⟩
    have ht4 := k04 _ _ ht1
    refine ⟨.ref c, rfl, Evl.ev_op (ev_pair (K := K) (i := 1) (j := 1) rfl ht4.1 rfl) (Evl.ev_var (i := 2) rfl) (Evl.rv_I (.inl ⟨by omega, by omega⟩)) _ (Evl.Ex.refl _) _ fun H6 e6 => ?_⟩
    have D6 := D4.ex e6
    have k6 := k04.trans (D4.exK e6)
    have ac6 := D4.exK e6 _ _ ac4
    refine ⟨by show (2 : Nat) ≤ sizeLine; decide, fun p np => ?_⟩
    have k9 := D6.newK (o := .tup [.ref c, .int (ui * ff)]) np
    exact hQ p c kvs2 ks2 (ui * ff) _ ((D6.new np).mono (by omega)) (k1.trans (k6.trans k9)) (D6.fresh np) (k9 _ _ ac6) c2 hfm.1 (by omega)
end
end Lw

namespace Lw
open PySem PySem.Spec PyProof.Rows L2
def lcv (kvs : List (Key × V)) (ks : List Str) (ui : Int) (kvs' : List (Key × V)) (uj : Int) : Bool := ks.all fun s => decide (toI (amt kvs' s) * ui ≤ toI (amt kvs s) * uj)
theorem mem_alike {ks ks' : List Str} (h : srt ks = srt ks') (s : Str) : s ∈ ks ↔ s ∈ ks' := by
  rw [← srt_mem (ws := ks), ← srt_mem (ws := ks'), h]
theorem cov_lcv {kvs kvs' : List (Key × V)} {ks : List Str} {ui uj : Int} : covPr kvs ks ui kvs' uj = lcv kvs ks ui kvs' uj := by
  unfold covPr lcv
  rw [Bool.eq_iff_iff, List.all_eq_true, List.all_eq_true]
  exact ⟨fun h s hs => h s (srt_mem.mpr hs), fun h s hs => h s (srt_mem.mp hs)⟩
theorem same_eq {kvs kvs' : List (Key × V)} {ks ks' : List Str} {ui uj : Int} : (decide (srt ks = srt ks') && (lcv kvs ks ui kvs' uj && lcv kvs' ks' uj kvs ui)) = eqPr kvs ks ui kvs' ks' uj := by
  unfold eqPr
  by_cases h : srt ks = srt ks'
  · rw [decide_eq_true h, Bool.true_and, Bool.true_and, Bool.eq_iff_iff, Bool.and_eq_true]
    unfold lcv
    rw [List.all_eq_true, List.all_eq_true, List.all_eq_true]
    constructor
    · rintro ⟨h1, h2⟩ s hs
      have hs1 := srt_mem.mp hs
      have a := of_decide_eq_true (h1 s hs1)
      have b := of_decide_eq_true (h2 s ((mem_alike h s).mp hs1))
      simp
      omega
    · intro h3
      have e : ∀ s ∈ ks, toI (amt kvs s) * uj = toI (amt kvs' s) * ui := fun s hs => by
        have := h3 s (srt_mem.mpr hs)
        simpa using this
      exact ⟨fun s hs => decide_eq_true (by have := e s hs; omega), fun s hs => decide_eq_true (by have := e s ((mem_alike h s).mpr hs); omega)⟩
  · rw [decide_eq_false h, Bool.false_and, Bool.false_and]
theorem eqPr_symm {kvs kvs' : List (Key × V)} {ks ks' : List Str} {ui uj : Int} : eqPr kvs' ks' uj kvs ks ui = eqPr kvs ks ui kvs' ks' uj := by
  unfold eqPr
  by_cases h : srt ks = srt ks'
  · rw [h, Bool.eq_iff_iff]
    simp only [decide_true, Bool.true_and, List.all_eq_true, beq_iff_eq]
    exact ⟨fun g s hs => (g s hs).symm, fun g s hs => (g s hs).symm⟩
  · rw [decide_eq_false h, decide_eq_false fun e => h e.symm]
    rfl
/-- prices and what they were made of -/
structure PS (CP x t : Addr) (kvs : List (Key × V)) (ks : List Str) (ui : Int) (H : Hp) : Prop where
  pr : PrAt CP x kvs ks (.int ui) H
  tup : ∃ d, H t = some (.tup [.ref d, .int ui]) ∧ H d = some (.dK kvs)
  kd : KD kvs ks
  nd : ks.Nodup
  l5 : ks.length ≤ 5
  tx : TxtOk ks
  sm : Sml kvs ks
theorem PS.ex {CP x t : Addr} {kvs : List (Key × V)} {ks : List Str} {ui : Int} {H H1 : Hp} (h : PS CP x t kvs ks ui H) (e : Evl.Ex H H1) : PS CP x t kvs ks ui H1 := by
  obtain ⟨d, h1, h2⟩ := h.tup
  exact ⟨h.pr.ex e, ⟨d, e _ _ h1, e _ _ h2⟩, h.kd, h.nd, h.l5, h.tx, h.sm⟩
def sp_compared (CP : Addr) : Sp := fun vs H Q _ => ∃ (t1 t2 x y : Addr) (kvs kvs' : List (Key × V)) (ks ks' : List Str) (ui uj : Int), vs = [.ref t1, .ref t2, .ref x, .ref y] ∧ PS CP x t1 kvs ks ui H ∧ PS CP y t2 kvs' ks' uj H ∧ ∀ H1, Evl.Ex H H1 → Q (.bl true) H1
abbrev s_law_compared : Stmt := topS 36
abbrev n_law_compared : List Str := ["_law_one", "_law_two", "_law_a", "_law_b", "_law_alike", "_law_same", "_law_told_here"]
theorem sc_law_compared : FnScope n_law_compared ["_law_one", "_law_two", "_law_a", "_law_b"] (defScope s_law_compared) := ⟨rfl, rfl, rfl, by decide +kernel, rfl, by decide +kernel, by decide +kernel⟩
section
variable {P : Program} {w : World} {K : PySem.W.Frag} {mg : Str → Option Value} {base : Heap}
theorem ok_compared {f CP fe f2 f3 : Addr} {fd fde fd2 fd3 : FuncData} (F : Fun K "_law_compared" "_law_compared" s_law_compared f fd)
    (O_Prices : OwnEq K CP fe) (N_Prices : OwnNe K CP) (al_Prices : Alone K CP) (G_Prices_eq : FnOk P w K mg base CX0 1 fe fde ["self", "other"] (sp_peq K CP)) (b_Prices_eq : Binds K fde ["self", "other"] [])
    (kf : ∀ T ∈ ["NoneType", "int", "str", "list", "tuple", "dict"], PySem.W.kitOne K (.type T) (.ref CP) = some false)
    (F_law_covers : Fun K "_law_covers" "_law_covers" s_law_covers f2 fd2) (b_law_covers : Binds K fd2 ["_law_one", "_law_two"] []) (g_law_covers : mg "_law_covers" = some (.ref f2)) (G_law_covers : FnOk P w K mg base CX0 1 f2 fd2 ["_law_one", "_law_two"] sp_lcov)
    (F_law_told : Fun K "_law_told" "_law_told" s_law_told f3 fd3) (b_law_told : Binds K fd3 ["_law_a", "_law_b"] []) (g_law_told : mg "_law_told" = some (.ref f3)) (G_law_told : FnOk P w K mg base CX0 7 f3 fd3 ["_law_a", "_law_b"] (sp_told CP))
    (m_sorted : mg "sorted" = none) (m_tuple : mg "tuple" = none) : FnOk P w K mg base CX0 8 f fd ["_law_one", "_law_two", "_law_a", "_law_b"] (sp_compared CP) := by
  refine F.ok sc_law_compared (fun vs H Q E h => ?_) (fun cdv A outer s H vs Q E hr h => ?_)
  · obtain ⟨t1, t2, x, y, kvs, kvs', ks, ks', ui, uj, rfl, _⟩ := h
    rfl
  · obtain ⟨t1, t2, x, y, kvs, kvs', ks, ks', ui, uj, rfl, S1, S2, hQ⟩ := h
    refine ⟨_, (pss_cons (ps_set (i := 4) sc_law_compared.nd rfl (by first | exact .inl rfl | exact .inr rfl) (pe_cmpR (op_eqD hr.units) (pe_callB (call_sortedD rfl) (by rfl) m_sorted (by decide +kernel) (pa_cons (pe_ix ix_tup (pv 0) pe_int (fun _ _ => rfl)) pa_nil)) (pe_callB (call_sortedD rfl) (by rfl) m_sorted (by decide +kernel) (pa_cons (pe_ix ix_tup (pv 1) pe_int (fun _ _ => rfl)) pa_nil)) (nomark _)))
  (pss_cons (ps_set (i := 5) sc_law_compared.nd rfl (by first | exact .inl rfl | exact .inr rfl) (pe_and (pv 4) (pe_and (pe_call G_law_covers (hr.mono (by decide)) (by rfl) g_law_covers F_law_covers.kp b_law_covers .nil pass0 (pa_cons (pv 0) (pa_cons (pv 1) pa_nil))) (pe_one (pe_call G_law_covers (hr.mono (by decide)) (by rfl) g_law_covers F_law_covers.kp b_law_covers .nil pass0 (pa_cons (pv 1) (pa_cons (pv 0) pa_nil)))))))
  (pss_cons (ps_if (PW.pt (pw_or (pt_cmpR op_ne (pe_cmpR (op_eqOwn O_Prices G_Prices_eq (hr.mono (by decide)) b_Prices_eq pass0) (pv 2) (pv 3) (nomark _)) (pv 5) (nomark _)) (pw_or (pt_cmpR op_ne (pe_cmpR (op_eqOwn O_Prices G_Prices_eq (hr.mono (by decide)) b_Prices_eq pass0) (pv 3) (pv 2) (nomark _)) (pv 5) (nomark _)) (pw_or (pt_cmpR op_eq (pe_cmpR (op_neOwn O_Prices N_Prices G_Prices_eq (hr.mono (by decide)) b_Prices_eq pass0) (pv 2) (pv 3) (nomark _)) (pv 5) (nomark _)) (pw_or1 (pt_cmpR (op_inOwn O_Prices al_Prices G_Prices_eq (hr.mono (by decide)) b_Prices_eq pass0) (pv 2) (pe_lst (pa_cons (pe_ix ix_tup (pv 0) pe_int (fun _ _ => rfl)) (pa_cons pe_non (pa_cons pe_int (pa_cons pe_str (pa_cons (pe_tup pa_nil) (pa_cons (pe_lst pa_nil) pa_nil))))))) (by with_unfolding_all rfl)))))))
   (pss_one (ps_ret pe_bl))
   pss_nil)
  (pss_cons (ps_if (pt_not (pt_val (pv 4)))
   (pss_cons (ps_set (i := 6) sc_law_compared.nd rfl (by first | exact .inl rfl | exact .inr rfl) (pe_lst (pa_cons (pe_call G_law_told (hr.mono (by decide)) (by rfl) g_law_told F_law_told.kp b_law_told .nil pass0 (pa_cons (pv 2) (pa_cons (pv 3) pa_nil))) (pa_cons (pe_call G_law_told (hr.mono (by decide)) (by rfl) g_law_told F_law_told.kp b_law_told .nil pass0 (pa_cons (pv 3) (pa_cons (pv 2) pa_nil))) pa_nil))))
  (pss_one (ps_ret (pe_cmpR (op_eqD hr.units) (pv 6) (pe_lst (pa_cons (pe_lst (pa_cons pe_str (pa_cons (pe_callTy call_tuple_of (by rfl) m_tuple (by decide +kernel) (pa_cons (pe_callB (call_sortedD rfl) (by rfl) m_sorted (by decide +kernel) (pa_cons (pe_ix ix_tup (pv 1) pe_int (fun _ _ => rfl)) pa_nil)) pa_nil)) pa_nil))) (pa_cons (pe_lst (pa_cons pe_str (pa_cons (pe_callTy call_tuple_of (by rfl) m_tuple (by decide +kernel) (pa_cons (pe_callB (call_sortedD rfl) (by rfl) m_sorted (by decide +kernel) (pa_cons (pe_ix ix_tup (pv 0) pe_int (fun _ _ => rfl)) pa_nil)) pa_nil)) pa_nil))) pa_nil))) (nomark _)))))
   pss_nil)
  (pss_one (ps_ret (pe_and (pe_cmpR (op_eqD hr.units) (pe_call G_law_told (hr.mono (by decide)) (by rfl) g_law_told F_law_told.kp b_law_told .nil pass0 (pa_cons (pv 2) (pa_cons (pv 3) pa_nil))) (pe_lst (pa_cons pe_str (pa_cons (pe_call G_law_covers (hr.mono (by decide)) (by rfl) g_law_covers F_law_covers.kp b_law_covers .nil pass0 (pa_cons (pv 0) (pa_cons (pv 1) pa_nil))) pa_nil))) (nomark _)) (pe_one (pe_cmpR (op_eqD hr.units) (pe_call G_law_told (hr.mono (by decide)) (by rfl) g_law_told F_law_told.kp b_law_told .nil pass0 (pa_cons (pv 3) (pa_cons (pv 2) pa_nil))) (pe_lst (pa_cons pe_str (pa_cons (pe_call G_law_covers (hr.mono (by decide)) (by rfl) g_law_covers F_law_covers.kp b_law_covers .nil pass0 (pa_cons (pv 1) (pa_cons (pv 0) pa_nil))) pa_nil))) (nomark _)))))))))), ?_⟩
    obtain ⟨d1, ht1, hd1⟩ := S1.tup
    obtain ⟨d2, ht2, hd2⟩ := S2.tup
    have l1 := S1.l5
    have l2 := S2.l5
    -- alike
    refine ⟨.ref t1, rfl, ⟨t1, _, 0, .ref d1, rfl, rfl, Evl.st_of ht1, atI_nat (j := 0) rfl, ⟨d1, kvs, ks, rfl, .inl hd1, S1.kd, by omega, fun ys p1 hp hs np1 => ?_⟩⟩⟩
    obtain rfl := srt_only hp hs
    have e1 := Evl.Ex.new (H := H) (o := .lst ((srt ks).map V.str)) np1
    refine ⟨.ref t2, rfl, ⟨t2, _, 0, .ref d2, rfl, rfl, Evl.st_of (e1 _ _ ht2), atI_nat (j := 0) rfl, ⟨d2, kvs', ks', rfl, .inl (e1 _ _ hd2), S2.kd, by omega, fun ys p2 hp hs np2 => ?_⟩⟩⟩
    obtain rfl := srt_only hp hs
    have e2 := Evl.Ex.new (o := .lst ((srt ks').map V.str)) np2
    have sh : ∀ {zs : List Str}, TxtOk zs → SeqAt.shaped (.list ((srt zs).map PyData.str)) = true := fun h => (good_strs fun z hz => (srt_ok h z hz).2).shaped (by decide)
    refine ⟨_, _, dp_strs (Evl.sq_of (e2 _ _ upd_same)), dp_strs (Evl.sq_of upd_same), sh S1.tx, sh S2.tx, ?_⟩
    rw [eqv_strs]
    have e12 := e1.trans e2
    revert e12
    generalize upd (upd H p1 (.lst ((srt ks).map V.str))) p2 (.lst ((srt ks').map V.str)) = H2
    intro e12
    try dsimp only [gName, List.set]
    -- the law's covers, both ways
    have c12 : ∀ {σ : L2.St} {H3 : Hp}, σ[0]? = some (some (.ref t1)) → σ[1]? = some (some (.ref t2)) → Evl.Ex H H3 → srt ks = srt ks' → Evl.Ev (tCall sp_lcov [] E0 (tCons (tVar 0) (tCons (tVar 1) tNil))) σ H3 (.bl (lcv kvs ks ui kvs' uj)) := fun {σ H3} g1 g2 e h => Evl.ev_call (Evl.ea_cons (Evl.ev_var g1) (Evl.ea_cons (Evl.ev_var g2) Evl.ea_nil)) fun H4 e4 Q q E =>
      have e' := e.trans e4
      ⟨t1, t2, d1, d2, kvs, kvs', ks, ks', ui, uj, rfl, e' _ _ ht1, e' _ _ ht2, e' _ _ hd1, e' _ _ hd2, S1.kd, S2.kd, fun s hs => (mem_alike h s).mp hs, S1.sm, S2.sm, fun H5 e5 => q H5 e5⟩
    have c21 : ∀ {σ : L2.St} {H3 : Hp}, σ[0]? = some (some (.ref t1)) → σ[1]? = some (some (.ref t2)) → Evl.Ex H H3 → srt ks = srt ks' → Evl.Ev (tCall sp_lcov [] E0 (tCons (tVar 1) (tCons (tVar 0) tNil))) σ H3 (.bl (lcv kvs' ks' uj kvs ui)) := fun {σ H3} g1 g2 e h => Evl.ev_call (Evl.ea_cons (Evl.ev_var g2) (Evl.ea_cons (Evl.ev_var g1) Evl.ea_nil)) fun H4 e4 Q q E =>
      have e' := e.trans e4
      ⟨t2, t1, d2, d1, kvs', kvs, ks', ks, uj, ui, rfl, e' _ _ ht2, e' _ _ ht1, e' _ _ hd2, e' _ _ hd1, S2.kd, S1.kd, fun s hs => (mem_alike h s).mpr hs, S2.sm, S1.sm, fun H5 e5 => q H5 e5⟩
    refine Evl.q_asg (v := .bl (eqPr kvs ks ui kvs' ks' uj)) (Evl.ev_is (Evl.ev_andV (a := decide (srt ks = srt ks')) (b := lcv kvs ks ui kvs' uj && lcv kvs' ks' uj kvs ui) (Evl.ev_var rfl) fun h => Evl.ev_andV (c12 rfl rfl e12 (of_decide_eq_true h)) fun _ => c21 rfl rfl e12 (of_decide_eq_true h)) (by rw [same_eq])) (fun H3 e3 => ?_)
    try dsimp only [gName, List.set]
    have e03 := e12.trans e3
    -- ==, != and in
    have own : ∀ {H4 : Hp} {Q : VK} {E : XK}, Evl.Ex H H4 → (∀ H5, Evl.Ex H4 H5 → Q (.bl (eqPr kvs ks ui kvs' ks' uj)) H5) → sp_peq K CP [.ref x, .ref y] H4 Q E := fun {H4 Q E} e q => .inl ⟨x, y, kvs, kvs', ks, ks', ui, uj, rfl, S1.pr.ex e, S2.pr.ex e, S1.kd, S2.kd, S1.tx, S2.tx, l1, l2, S1.sm, S2.sm, q⟩
    have own2 : ∀ {H4 : Hp} {Q : VK} {E : XK}, Evl.Ex H H4 → (∀ H5, Evl.Ex H4 H5 → Q (.bl (eqPr kvs ks ui kvs' ks' uj)) H5) → sp_peq K CP [.ref y, .ref x] H4 Q E := fun {H4 Q E} e q => .inl ⟨y, x, kvs', kvs, ks', ks, uj, ui, rfl, S2.pr.ex e, S1.pr.ex e, S2.kd, S1.kd, S2.tx, S1.tx, l2, l1, S2.sm, S1.sm, fun H5 e5 => by rw [eqPr_symm]; exact q H5 e5⟩
    obtain ⟨dx, gx, mx, vx, x1, x2, x3, x4⟩ := S1.pr
    obtain ⟨dy, gy, my, vy, y1, y2, y3, y4⟩ := S2.pr
    refine Evl.q_when (b := false || (false || (false || false))) (Evl.et_or (Evl.et_is (Evl.et_test (Evl.ev_op (x := .bl (eqPr kvs ks ui kvs' ks' uj)) (Evl.ev_op (Evl.ev_var rfl) (Evl.ev_var rfl) fun H4 e4 Q q => ⟨x, y, dx, dy, _, _, rfl, rfl, (e03.trans e4) _ _ x1, (e03.trans e4) _ _ y1, own (e03.trans e4) fun H5 e5 => ⟨⟨_, rfl⟩, q H5 e5⟩⟩) (Evl.ev_var rfl) (Evl.rv_ne rfl))) (by simp)) fun _ => Evl.et_or (Evl.et_is (Evl.et_test (Evl.ev_op (x := .bl (eqPr kvs ks ui kvs' ks' uj)) (Evl.ev_op (Evl.ev_var rfl) (Evl.ev_var rfl) fun H4 e4 Q q => ⟨y, x, dy, dx, _, _, rfl, rfl, (e03.trans e4) _ _ y1, (e03.trans e4) _ _ x1, own2 (e03.trans e4) fun H5 e5 => ⟨⟨_, rfl⟩, q H5 e5⟩⟩) (Evl.ev_var rfl) (Evl.rv_ne rfl))) (by simp)) fun _ => Evl.et_or (Evl.et_is (Evl.et_test (Evl.ev_op (x := .bl (!eqPr kvs ks ui kvs' ks' uj)) (Evl.ev_op (Evl.ev_var rfl) (Evl.ev_var rfl) fun H4 e4 Q q => ⟨x, y, dx, dy, _, _, rfl, rfl, (e03.trans e4) _ _ x1, (e03.trans e4) _ _ y1, own (e03.trans e4) fun H5 e5 => ⟨_, rfl, q H5 e5⟩⟩) (Evl.ev_var rfl) (Evl.rv_eq rfl))) (by cases eqPr kvs ks ui kvs' ks' uj <;> simp)) fun _ => ?_) (fun hb => by cases hb) (fun _ H4 e4 => ?_)
    · intro H4 e4 Q q
      have e04 := e03.trans e4
      refine ⟨.ref x, rfl, .ref t1, rfl, ⟨t1, _, 0, .ref d1, rfl, rfl, Evl.st_of (e04 _ _ ht1), atI_nat (j := 0) rfl, ?_⟩⟩
      refine ⟨Nat.zero_le _, fun pt npt => ⟨Nat.zero_le _, fun pl npl => ⟨by show (6 : Nat) ≤ sizeLine; decide, fun p np => ?_⟩⟩⟩
      have e5 := ((Evl.Ex.new (o := .tup []) npt).trans (Evl.Ex.new (o := .lst []) npl)).trans (Evl.Ex.new (o := .lst [.ref d1, .non, .int 7, .str "x", .ref pt, .ref pl]) np)
      have e05 := e04.trans e5
      refine ⟨x, p, dx, _, _, rfl, rfl, e05 _ _ x1, upd_same, fun v hv => ?_, fun H6 e6 => ⟨false, rfl, q H6 (e5.trans e6)⟩⟩
      have fg : ∃ T, Fgn (upd (upd (upd H4 pt (.tup [])) pl (.lst [])) p (.lst [.ref d1, .non, .int 7, .str "x", .ref pt, .ref pl])) v T := by
        simp only [List.mem_cons, List.not_mem_nil, or_false] at hv
        rcases hv with rfl | rfl | rfl | rfl | rfl | rfl
        · exact ⟨_, .dK (e05 _ _ hd1)⟩
        · exact ⟨_, .non⟩
        · exact ⟨_, .int _⟩
        · exact ⟨_, .str _⟩
        · exact ⟨_, .tup (((Evl.Ex.new (o := .lst []) npl).trans (Evl.Ex.new (o := .lst [.ref d1, .non, .int 7, .str "x", .ref pt, .ref pl]) np)) _ _ upd_same)⟩
        · exact ⟨_, .lst ((Evl.Ex.new (o := .lst [.ref d1, .non, .int 7, .str "x", .ref pt, .ref pl]) np) _ _ upd_same)⟩
      obtain ⟨T, hT⟩ := fg
      exact ⟨T, hT, fun H7 e7 => .inr ⟨x, v, T, rfl, hT.ex e7, kf T hT.mem, fun H8 e8 => ⟨rfl, e8⟩⟩⟩
    have e04 := e03.trans e4
    clear own own2
    have gl : ∀ {zs : List Str}, TxtOk zs → GoodD 2 (.list [.str "unlike", .tuple ((srt zs).map PyData.str)]) := fun {zs} h => good_list (n := 1) fun d hd => by
      simp only [List.mem_cons, List.not_mem_nil, or_false] at hd
      rcases hd with rfl | rfl
      · exact ⟨by decide +kernel, by simp [PyData.depth]⟩
      · exact good_strsT fun z hz => (srt_ok h z hz).2
    refine Evl.q_when (b := !decide (srt ks = srt ks')) (Evl.et_not (Evl.et_B (Evl.ev_var rfl))) (fun hb H5 e5 => ?_) (fun hb H5 e5 => ?_)
    · have hne : srt ks ≠ srt ks' := by simpa using hb
      have e05 := e04.trans e5
      refine ⟨.ref x, rfl, .ref y, rfl, x, y, kvs, kvs', ks, ks', ui, uj, rfl, S1.pr.ex (e05), S2.pr.ex (e05), S1.kd, S2.kd, S1.tx, S2.tx, l1, l2, S1.sm, S2.sm, fun _ H6 p1 g1 e6 hp1 hg1 => ?_, fun h => absurd h hne⟩
      have e06 := e05.trans e6
      refine ⟨.ref y, rfl, .ref x, rfl, y, x, kvs', kvs, ks', ks, uj, ui, rfl, S2.pr.ex (e06), S1.pr.ex (e06), S2.kd, S1.kd, S2.tx, S1.tx, l2, l1, S2.sm, S1.sm, fun _ H7 p2 g2 e7 hp2 hg2 => ?_, fun h => absurd h.symm hne⟩
      have e07 := e06.trans e7
      refine ⟨by show (2 : Nat) ≤ sizeLine; decide, fun q nq => ?_⟩
      try dsimp only [gName, List.set]
      have e8 := Evl.Ex.new (o := .lst [.ref p1, .ref p2]) nq
      have hq8 : (upd H7 q (.lst [.ref p1, .ref p2])) q = some (.lst [.ref p1, .ref p2]) := upd_same
      revert e8 hq8
      generalize upd H7 q (.lst [.ref p1, .ref p2]) = H8
      intro e8 hq8
      have e08 := e07.trans e8
      refine ⟨.ref q, rfl, .ref t2, rfl, ⟨t2, _, 0, .ref d2, rfl, rfl, Evl.st_of (e08 _ _ ht2), atI_nat (j := 0) rfl, ⟨d2, kvs', ks', rfl, .inl (e08 _ _ hd2), S2.kd, by omega, fun ys l hp hs nl => ⟨l, _, rfl, .inl ⟨Evl.sq_of upd_same, fun tt nt => ⟨by show (2 : Nat) ≤ sizeLine; decide, fun m nm => ?_⟩⟩⟩⟩⟩⟩
      obtain rfl := srt_only hp hs
      have e9 := ((Evl.Ex.new (o := .lst ((srt ks').map V.str)) nl).trans (Evl.Ex.new (o := .tup ((srt ks').map V.str)) nt)).trans (Evl.Ex.new (o := .lst [.str "unlike", .ref tt]) nm)
      have htt := (Evl.Ex.new (o := .lst [.str "unlike", .ref tt]) nm) tt _ (upd_same (o := .tup ((srt ks').map V.str)))
      have hm9 : (upd (upd (upd H8 l (.lst ((srt ks').map V.str))) tt (.tup ((srt ks').map V.str))) m (.lst [.str "unlike", .ref tt])) m = some (.lst [.str "unlike", .ref tt]) := upd_same
      revert e9 htt hm9
      generalize upd (upd (upd H8 l (.lst ((srt ks').map V.str))) tt (.tup ((srt ks').map V.str))) m (.lst [.str "unlike", .ref tt]) = H9
      intro e9 htt hm9
      have e09 := e08.trans e9
      refine ⟨.ref t1, rfl, ⟨t1, _, 0, .ref d1, rfl, rfl, Evl.st_of (e09 _ _ ht1), atI_nat (j := 0) rfl, ⟨d1, kvs, ks, rfl, .inl (e09 _ _ hd1), S1.kd, by omega, fun ys l2 hp hs nl2 => ⟨l2, _, rfl, .inl ⟨Evl.sq_of upd_same, fun tt2 nt2 => ⟨by show (2 : Nat) ≤ sizeLine; decide, fun m2 nm2 => ?_⟩⟩⟩⟩⟩⟩
      obtain rfl := srt_only hp hs
      have e10 := ((Evl.Ex.new (o := .lst ((srt ks).map V.str)) nl2).trans (Evl.Ex.new (o := .tup ((srt ks).map V.str)) nt2)).trans (Evl.Ex.new (o := .lst [.str "unlike", .ref tt2]) nm2)
      have htt2 := (Evl.Ex.new (o := .lst [.str "unlike", .ref tt2]) nm2) tt2 _ (upd_same (o := .tup ((srt ks).map V.str)))
      have hm10 : (upd (upd (upd H9 l2 (.lst ((srt ks).map V.str))) tt2 (.tup ((srt ks).map V.str))) m2 (.lst [.str "unlike", .ref tt2])) m2 = some (.lst [.str "unlike", .ref tt2]) := upd_same
      revert e10 htt2 hm10
      generalize upd (upd (upd H9 l2 (.lst ((srt ks).map V.str))) tt2 (.tup ((srt ks).map V.str))) m2 (.lst [.str "unlike", .ref tt2]) = H10
      intro e10 htt2 hm10
      refine ⟨by show (2 : Nat) ≤ sizeLine; decide, fun r nr => ?_⟩
      have e11 := Evl.Ex.new (o := .lst [.ref m, .ref m2]) nr
      have e7' := e8.trans (e9.trans (e10.trans e11))
      have dl : ∀ {H' : Hp} {a g : Addr} {ws : List Str}, H' a = some (.lst [.str "unlike", .ref g]) → H' g = some (.tup (ws.map V.str)) → Dp K H' (.ref a) (.list [.str "unlike", .tuple (ws.map PyData.str)]) := fun h1 h2 => .lst (Evl.sq_of h1) (.cons (.str _) (.cons (dp_strsT (Evl.st_of h2)) .nil))
      have gg : GoodD 3 (.list [.list [.str "unlike", .tuple ((srt ks').map PyData.str)], .list [.str "unlike", .tuple ((srt ks).map PyData.str)]]) := good_list (n := 2) fun d hd => by
        simp only [List.mem_cons, List.not_mem_nil, or_false] at hd
        rcases hd with rfl | rfl
        · exact gl S2.tx
        · exact gl S1.tx
      refine ⟨_, _, .lst (Evl.sq_of ((e9.trans (e10.trans e11)) _ _ hq8)) (.cons (dl ((e7.trans e7') _ _ hp1) ((e7.trans e7') _ _ hg1)) (.cons (dl (e7' _ _ hp2) (e7' _ _ hg2)) .nil)), .lst (Evl.sq_of upd_same) (.cons (dl ((e10.trans e11) _ _ hm9) ((e10.trans e11) _ _ htt)) (.cons (dl (e11 _ _ hm10) (e11 _ _ htt2)) .nil)), gg.shaped (by decide), gg.shaped (by decide), ?_⟩
      rw [SeqAt.eqv_refl _ gg.1]
      exact hQ _ (((e08.trans e9).trans e10).trans e11)
    · have he : srt ks = srt ks' := by simpa using hb
      have e05 := e04.trans e5
      have gc : ∀ b : Bool, GoodD 2 (.list [.str "covers", .bool b]) := fun b => good_list (n := 1) fun d hd => by
        simp only [List.mem_cons, List.not_mem_nil, or_false] at hd
        rcases hd with rfl | rfl
        · exact ⟨by decide +kernel, by simp [PyData.depth]⟩
        · exact good_bool b
      have dc : ∀ {H' : Hp} {a : Addr} {b : Bool}, H' a = some (.lst [.str "covers", .bl b]) → Dp K H' (.ref a) (.list [.str "covers", .bool b]) := fun h1 => .lst (Evl.sq_of h1) (.cons (.str _) (.cons (.bl _) .nil))
      refine Evl.s_ret (v := .bl (true && true)) (Evl.ev_andV (a := true) (b := true) (fun H6 e6 Q q => ?_) fun _ H6 e6 Q q => ?_) fun H6 e6 => hQ H6 (e05.trans e6)
      · refine ⟨.ref x, rfl, .ref y, rfl, x, y, kvs, kvs', ks, ks', ui, uj, rfl, S1.pr.ex (e05.trans e6), S2.pr.ex (e05.trans e6), S1.kd, S2.kd, S1.tx, S2.tx, l1, l2, S1.sm, S2.sm, fun h => absurd he h, fun _ H7 p e7 hp => ?_⟩
        rw [cov_lcv] at hp
        refine Evl.el_lst (Evl.ea_cons Evl.ev_c (Evl.ea_cons (c12 rfl rfl ((e05.trans e6).trans e7) he) Evl.ea_nil)) (by show 2 ≤ 100000; decide) H7 (Evl.Ex.refl _) _ fun m H8 nm e8 hm => ⟨_, _, dc (e8 _ _ hp), dc hm, (gc _).shaped (by decide), (gc _).shaped (by decide), ?_⟩
        rw [SeqAt.eqv_refl _ (gc _).1]
        exact q H8 (e7.trans e8)
      · refine ⟨.ref y, rfl, .ref x, rfl, y, x, kvs', kvs, ks', ks, uj, ui, rfl, S2.pr.ex (e05.trans e6), S1.pr.ex (e05.trans e6), S2.kd, S1.kd, S2.tx, S1.tx, l2, l1, S2.sm, S1.sm, fun h => absurd he.symm h, fun _ H7 p e7 hp => ?_⟩
        rw [cov_lcv] at hp
        refine Evl.el_lst (Evl.ea_cons Evl.ev_c (Evl.ea_cons (c21 rfl rfl ((e05.trans e6).trans e7) he) Evl.ea_nil)) (by show 2 ≤ 100000; decide) H7 (Evl.Ex.refl _) _ fun m H8 nm e8 hm => ⟨_, _, dc (e8 _ _ hp), dc hm, (gc _).shaped (by decide), (gc _).shaped (by decide), ?_⟩
        rw [SeqAt.eqv_refl _ (gc _).1]
        exact q H8 (e7.trans e8)
end
end Lw

namespace Lw
open PySem PySem.Spec PyProof.Rows L2
theorem amt_times {kvs : List (Key × V)} {ks : List Str} {q : Int} (hn : ks.Nodup) {z : Str} (hz : z ∈ ks) : amt (timesD kvs ks q) z = .int (toI (amt kvs z) * q) := by
  unfold amt
  rw [timesD_amt hn hz]
  rfl
theorem tx_vn {ks : List Str} (h : ∀ s ∈ ks, vn s = true) : TxtOk ks := by
  have a : Asc 7 ks := fun z hz => by
    have hz' := h z hz
    exact ⟨Nat.le_trans (vn_parts hz').2.1 (by omega), fun c hc => Nat.lt_trans (isN_lt ((vn_parts hz').2.2 c hc)) (by decide)⟩
  exact a.ok (by decide)
theorem Rng.sml {kvs : List (Key × V)} {ks : List Str} {B : Int} (h : Rng kvs ks B) (hb : B < 2 ^ 64) : Sml kvs ks := fun s hs => by
  obtain ⟨i, h1, h2, h3⟩ := h s hs
  exact ⟨i, h1, by omega, by omega⟩
theorem Rng.nat {kvs : List (Key × V)} {ks : List Str} {B : Int} (h : Rng kvs ks B) (hb : B < 2 ^ 64) : Nat64 kvs ks := fun s hs => by
  obtain ⟨i, h1, h2, h3⟩ := h s hs
  exact ⟨i, h1, h2, by omega⟩
theorem Rng.times {kvs : List (Key × V)} {ks : List Str} {B q : Int} (h : Rng kvs ks B) (hn : ks.Nodup) (hq : 0 ≤ q) : Rng (timesD kvs ks q) ks (B * q) := fun s hs => by
  obtain ⟨i, h1, h2, h3⟩ := h s hs
  rw [amt_times hn hs, h1]
  exact ⟨i * q, rfl, Int.mul_nonneg h2 hq, Int.mul_le_mul_of_nonneg_right h3 hq⟩
theorem Rng.raised {kvs : List (Key × V)} {ks : List Str} {B j : Int} {s : Str} (h : Rng kvs ks B) (hs : s ∈ ks) (hj : 0 ≤ j) : Rng (raisedD kvs s (.int j)) ks (B + j) := fun z hz => by
  obtain ⟨i, h1, h2, h3⟩ := h s hs
  obtain ⟨i', h1', h2', h3'⟩ := h z hz
  unfold raisedD
  rw [amt_put, h1]
  by_cases hzs : z = s
  · rw [if_pos hzs]
    exact ⟨i + j, rfl, by omega, by omega⟩
  · rw [if_neg hzs]
    exact ⟨i', h1', h2', by omega⟩
theorem amt_raised {kvs : List (Key × V)} {s z : Str} {j : Int} : toI (amt (raisedD kvs s (.int j)) z) = if z = s then toI (amt kvs s) + j else toI (amt kvs z) := by
  unfold raisedD
  rw [amt_put]
  split <;> rfl
theorem eq_times {kvs : List (Key × V)} {ks : List Str} {ui q : Int} (hn : ks.Nodup) : eqPr (timesD kvs ks q) ks (ui * q) kvs ks ui = true := by
  unfold eqPr
  rw [decide_eq_true rfl, Bool.true_and, List.all_eq_true]
  intro s hs
  rw [amt_times hn (srt_mem.mp hs)]
  show (toI (amt kvs s) * q * ui == toI (amt kvs s) * (ui * q)) = true
  rw [beq_iff_eq, Int.mul_assoc, Int.mul_comm q ui]
theorem cov_up {kvs : List (Key × V)} {ks : List Str} {ui j : Int} {s : Str} (hu : 1 ≤ ui) (hj : 0 ≤ j) : covPr (raisedD kvs s (.int j)) ks ui kvs ui = true := by
  unfold covPr
  rw [List.all_eq_true]
  intro z _
  rw [amt_raised]
  refine decide_eq_true (Int.mul_le_mul_of_nonneg_right ?_ (by omega))
  split
  · rename_i h
    rw [h]
    omega
  · omega
theorem cov_dn {kvs : List (Key × V)} {ks : List Str} {ui j : Int} {s : Str} (hu : 1 ≤ ui) (hj : 1 ≤ j) (hs : s ∈ ks) : covPr kvs ks ui (raisedD kvs s (.int j)) ui = false := by
  rw [Bool.eq_false_iff]
  intro h
  unfold covPr at h
  have := of_decide_eq_true (List.all_eq_true.mp h s (srt_mem.mpr hs))
  rw [amt_raised, if_pos rfl, Int.add_mul] at this
  have h2 : 0 < j * ui := Int.mul_pos (by omega) (by omega)
  omega
theorem eq_up {kvs : List (Key × V)} {ks : List Str} {ui j : Int} {s : Str} (hu : 1 ≤ ui) (hj : 1 ≤ j) (hs : s ∈ ks) : eqPr (raisedD kvs s (.int j)) ks ui kvs ks ui = false := by
  rw [Bool.eq_false_iff]
  intro h
  unfold eqPr at h
  rw [decide_eq_true rfl, Bool.true_and] at h
  have := List.all_eq_true.mp h s (srt_mem.mpr hs)
  rw [beq_iff_eq, amt_raised, if_pos rfl, Int.add_mul] at this
  have h2 : 0 < j * ui := Int.mul_pos (by omega) (by omega)
  omega
theorem eq_both {kvs : List (Key × V)} {ks : List Str} {ui : Int} {s : Str} (hn : ks.Nodup) (hs : s ∈ ks) : eqPr (raisedD (timesD kvs ks 6) s (.int 18)) ks (ui * 6) (raisedD kvs s (.int 3)) ks ui = true := by
  unfold eqPr
  rw [decide_eq_true rfl, Bool.true_and, List.all_eq_true]
  intro z hz
  rw [amt_raised, amt_raised, amt_times hn hs, amt_times hn (srt_mem.mp hz)]
  show ((if z = s then toI (amt kvs s) * 6 + 18 else toI (amt kvs z) * 6) * ui == (if z = s then toI (amt kvs s) + 3 else toI (amt kvs z)) * (ui * 6)) = true
  rw [beq_iff_eq, Int.mul_comm ui 6, ← Int.mul_assoc]
  split
  · rw [Int.add_mul (toI (amt kvs s)) 3 6]
    rfl
  · rfl
/-- what the law knows of its first prices -/
structure Bs (st wd t d : Addr) (ws : List Str) (kvs : List (Key × V)) (ks : List Str) (ui : Int) (H : Hp) : Prop where
  aw : Ap H st wd (.lst (ws.map V.str))
  at_ : Ap H st t (.tup [.ref d, .int ui])
  ad : Ap H st d (.dK kvs)
theorem Bs.kp {st wd t d : Addr} {ws : List Str} {kvs : List (Key × V)} {ks : List Str} {ui : Int} {H H' : Hp} (h : Bs st wd t d ws kvs ks ui H) (k : Kp st H H') : Bs st wd t d ws kvs ks ui H' := ⟨k _ _ h.aw, k _ _ h.at_, k _ _ h.ad⟩
structure Fs (ws : List Str) (kvs : List (Key × V)) (ks : List Str) (ui : Int) : Prop where
  kd : KD kvs ks
  nd : ks.Nodup
  l1 : 1 ≤ ks.length
  l5 : ks.length ≤ 5
  vn : ∀ s ∈ ks, Lw.vn s = true
  rg : Rng kvs ks 999999999999
  u1 : 1 ≤ ui
  u2 : ui ≤ 12
  wk : ∀ s ∈ ws, s ∈ ks
  wl : ws.length = ks.length
theorem Fs.gr {ws : List Str} {kvs : List (Key × V)} {ks : List Str} {ui : Int} (f : Fs ws kvs ks ui) : gres (srt ks) = .ok := gres_ok.mpr ⟨⟨by rw [srt_len]; exact f.l1, by rw [srt_len]; exact f.l5⟩, fun s hs => f.vn s (srt_mem.mp hs), (srt_perm ks).nodup_iff.mpr f.nd⟩
def PrS (CP st x : Addr) (kvs : List (Key × V)) (ks : List Str) (u : V) (H : Hp) : Prop := ∃ dx g m kvs2, Ap H st x (.ins CP dx (prF g m u)) ∧ Ap H st g (.tup ((srt ks).map V.str)) ∧ Ap H st m (.dK kvs2) ∧ SameD kvs2 kvs ks
theorem PrS.at {CP st x : Addr} {kvs : List (Key × V)} {ks : List Str} {u : V} {H : Hp} (h : PrS CP st x kvs ks u H) : PrAt CP x kvs ks u H := by
  obtain ⟨dx, g, m, kvs2, h1, h2, h3, h4⟩ := h
  exact ⟨dx, g, m, kvs2, h1.1, h2.1, h3.1, h4⟩
theorem PrS.kp {CP st x : Addr} {kvs : List (Key × V)} {ks : List Str} {u : V} {H H' : Hp} (h : PrS CP st x kvs ks u H) (k : Kp st H H') : PrS CP st x kvs ks u H' := by
  obtain ⟨dx, g, m, kvs2, h1, h2, h3, h4⟩ := h
  exact ⟨dx, g, m, kvs2, k _ _ h1, k _ _ h2, k _ _ h3, h4⟩
theorem FrX.exOf {x dx : Addr} {H H1 : Hp} {a b : HO} (nx : H x = none) (nd : H dx = none) (h : FrX x (upd (upd H dx a) x b) H1) : Evl.Ex H H1 := FrX.ofMake nx nd h
/-- C(t[0], unit = t[1]) with whole amounts of good names -/
theorem init_ok {CP CB CN CD CA CU st : Addr} {K : PySem.W.Frag} {H : Hp} {n : Nat} {d x dx : Addr} {kvs : List (Key × V)} {ks : List Str} {ui B : Int} {Q : VK} {E : XK} (D : DS H st n) (hd : Ap H st d (.dK kvs)) (hk : KD kvs ks) (hn : ks.Nodup) (h1 : 1 ≤ ks.length) (h5 : ks.length ≤ 5) (hv : ∀ s ∈ ks, vn s = true) (hr : Rng kvs ks B) (hu : 1 ≤ ui) (nx : H x = none) (ndx : H dx = none) (nxd : x ≠ dx)
    (k : ∀ H1, DS H1 st n → Kp st H H1 → PrS CP st x kvs ks (.int ui) H1 → Q .non H1) :
    sp_init K ⟨CP, CB, CN, CD, CA, CU⟩ [.ref x, .ref d, .int ui] (upd (upd H dx (.own x)) x (.ins CP dx [])) Q E := by
  have e0 : Evl.Ex H (upd (upd H dx (.own x)) x (.ins CP dx [])) := (Evl.Ex.new ndx).trans (Evl.Ex.new (by rw [upd_ne nxd]; exact nx))
  have hg : gres (srt ks) = .ok := gres_ok.mpr ⟨⟨by rw [srt_len]; exact h1, by rw [srt_len]; exact h5⟩, fun s hs => hv s (srt_mem.mp hs), (srt_perm ks).nodup_iff.mpr hn⟩
  refine ⟨x, dx, d, kvs, ks, .int ui, rfl, upd_same, e0 _ _ hd.1, hk, tx_vn hv, by omega, fun p hp => ?_, .inl ⟨_, rfl⟩, ?_⟩
  · obtain ⟨s, hs, e⟩ := hk.key hp
    have h9 := hk.val hn hp
    rw [e, hk.amtV hs] at h9
    obtain ⟨i, hi, _⟩ := hr s hs
    exact .inl ⟨i, by rw [← Option.some.inj h9, hi]⟩
  · unfold initAt
    rw [pres_ok hg (fun s hs => ?_) (by simp [whole]; exact hu)]
    · intro H1 g m kvs2 fr ng nm hx hgo hmo hs
      have e1 := FrX.ofMake nx ndx fr
      exact k H1 (D.ex e1) (D.exK e1) ⟨dx, g, m, kvs2, D.exNew e1 nx hx, D.exNew e1 (Evl.fresh_back e0 ng) hgo, D.exNew e1 (Evl.fresh_back e0 nm) hmo, hs⟩
    · obtain ⟨i, hi, i0, _⟩ := hr s (srt_mem.mp hs)
      rw [hi]
      exact decide_eq_true i0
end Lw

namespace Lw
open PySem PySem.Spec PyProof.Rows L2
theorem SameD_self {kvs : List (Key × V)} {ks : List Str} (hk : KD kvs ks) (hn : ks.Nodup) : SameD kvs kvs ks := ⟨ks, hk, hn, fun _ => Iff.rfl, fun _ _ => rfl⟩
theorem q_asg_ixL {K : PySem.W.Frag} {ta tb : TE} {i : Nat} {tz : TS} {D : Ends} {σ : L2.St} {H : Hp} {xs : List V} (h : Evl.EvL ta σ H xs) (k : ∀ p H1, H p = none → Evl.Ex H H1 → H1 p = some (.lst xs) → tb σ H1 fun y H2 => rIxL K (.ref p) y H2 fun v H3 => tz D (σ.set i (some v)) H3) : tSeq (tAsg (tOp (rIxL K) ta tb) (gName i)) tz D σ H :=
  h H (Evl.Ex.refl H) _ fun p H1 np e hp => k p H1 np e hp
abbrev s_law : Stmt := topS 37
abbrev n_law : List Str := ["_law_script", "_law_state", "_law_ware", "_law_one", "_law_a", "_law_turn", "_law_two", "_law_b", "_law_label", "_law_more2", "_law_whole", "_law_more"]
theorem sc_law : FnScope n_law ["_law_script"] (defScope s_law) := ⟨rfl, rfl, rfl, by decide +kernel, rfl, by decide +kernel, by decide +kernel⟩
section
variable {P : Program} {w : World} {K : PySem.W.Frag} {mg : Str → Option Value} {base : Heap}
def sp_law (K : PySem.W.Frag) : Sp := fun vs H Q _ => ∃ (a : Addr) (ns : List Int), vs = [.ref a] ∧ SqL K H a (ns.map V.int) ∧ ns.length ≤ 63 ∧ ∀ H', Q (.bl true) H'
theorem ok_law {f f1 f2 f3 f4 f5 f6 f7 f8 f9 f10 CP CB CN CD CA CU CUn CUg fi fe fr fc fs fu fa pu : Addr} {fd fd1 fd2 fd3 fd4 fd5 fd6 fd7 fd8 fd9 fd10 fdi fde fdr fdc fds fdu fda : FuncData} {gg : List Value → List Value → List Value} (F : Fun K "law" "law" s_law f fd)
    (F_law_start : Fun K "_law_start" "_law_start" s_law_start f1 fd1) (b_law_start : Binds K fd1 ["_law_script"] []) (g_law_start : mg "_law_start" = some (.ref f1)) (G_law_start : FnOk P w K mg base CX0 1 f1 fd1 ["_law_script"] (sp_start K))
    (F_law_draw : Fun K "_law_draw" "_law_draw" s_law_draw f2 fd2) (b_law_draw : Binds K fd2 ["_law_state", "_law_size"] []) (g_law_draw : mg "_law_draw" = some (.ref f2)) (G_law_draw : FnOk P w K mg base CX0 1 f2 fd2 ["_law_state", "_law_size"] sp_draw)
    (F_law_names : Fun K "_law_names" "_law_names" s_law_names f3 fd3) (b_law_names : Binds K fd3 ["_law_state", "_law_count"] []) (g_law_names : mg "_law_names" = some (.ref f3)) (G_law_names : FnOk P w K mg base CX0 2 f3 fd3 ["_law_state", "_law_count"] sp_names)
    (F_law_costs : Fun K "_law_costs" "_law_costs" s_law_costs f4 fd4) (b_law_costs : Binds K fd4 ["_law_state", "_law_stock", "_law_scale"] []) (g_law_costs : mg "_law_costs" = some (.ref f4)) (G_law_costs : FnOk P w K mg base CX0 3 f4 fd4 ["_law_state", "_law_stock", "_law_scale"] (sp_costsR K))
    (F_law_other : Fun K "_law_other" "_law_other" s_law_other f5 fd5) (b_law_other : Binds K fd5 ["_law_state", "_law_one"] []) (g_law_other : mg "_law_other" = some (.ref f5)) (G_law_other : FnOk P w K mg base CX0 3 f5 fd5 ["_law_state", "_law_one"] sp_other)
    (F_law_compared : Fun K "_law_compared" "_law_compared" s_law_compared f6 fd6) (b_law_compared : Binds K fd6 ["_law_one", "_law_two", "_law_a", "_law_b"] []) (g_law_compared : mg "_law_compared" = some (.ref f6)) (G_law_compared : FnOk P w K mg base CX0 8 f6 fd6 ["_law_one", "_law_two", "_law_a", "_law_b"] (sp_compared CP))
    (F_law_raised : Fun K "_law_raised" "_law_raised" s_law_raised f7 fd7) (b_law_raised : Binds K fd7 ["_law_a", "_law_label", "_law_more2"] []) (g_law_raised : mg "_law_raised" = some (.ref f7)) (G_law_raised : FnOk P w K mg base CX0 8 f7 fd7 ["_law_a", "_law_label", "_law_more2"] (sp_lraised CP))
    (F_law_raised_due : Fun K "_law_raised_due" "_law_raised_due" s_law_raised_due f8 fd8) (b_law_raised_due : Binds K fd8 ["_law_one", "_law_label", "_law_more2"] []) (g_law_raised_due : mg "_law_raised_due" = some (.ref f8)) (G_law_raised_due : FnOk P w K mg base CX0 1 f8 fd8 ["_law_one", "_law_label", "_law_more2"] sp_rdue)
    (F_law_scaled : Fun K "_law_scaled" "_law_scaled" s_law_scaled f9 fd9) (b_law_scaled : Binds K fd9 ["_law_a", "_law_whole"] []) (g_law_scaled : mg "_law_scaled" = some (.ref f9)) (G_law_scaled : FnOk P w K mg base CX0 8 f9 fd9 ["_law_a", "_law_whole"] (sp_lscaled CP))
    (F_law_scaled_due : Fun K "_law_scaled_due" "_law_scaled_due" s_law_scaled_due f10 fd10) (b_law_scaled_due : Binds K fd10 ["_law_one", "_law_whole"] []) (g_law_scaled_due : mg "_law_scaled_due" = some (.ref f10)) (G_law_scaled_due : FnOk P w K mg base CX0 1 f10 fd10 ["_law_one", "_law_whole"] sp_sdue)
    (M_Prices : Mk K CP fi) (c_Prices : Cls K CP) (g_Prices : mg "Prices" = some (.ref CP)) (G_Prices_init : FnOk P w K mg base (L2.CX P w) 4 fi fdi ["self", "amounts", "unit"] (sp_init K ⟨CP, CB, CN, CD, CA, CU⟩)) (kb_Prices_unit : KBn K fdi ["self", "amounts", "unit"] 2 ["unit"] gg (fun us ws => us ++ ws))
    (O_Prices : OwnEq K CP fe) (N_Prices : OwnNe K CP) (G_Prices_eq : FnOk P w K mg base CX0 1 fe fde ["self", "other"] (sp_peq K CP)) (b_Prices_eq : Binds K fde ["self", "other"] [])
    (me_Prices_raised : Meth K CP "raised" fr) (G_Prices_raised : FnOk P w K mg base (L2.CX P w) 6 fr fdr ["self", "good", "by"] (sp_raised CP CUn CA)) (b_Prices_raised : Binds K fdr ["self", "good", "by"] []) (kb_Prices_raised_by_good : KBinds K fdr ["self", "good", "by"] ["by", "good"] kwG2 kwG2)
    (me_Prices_covers : Meth K CP "covers" fc) (G_Prices_covers : FnOk P w K mg base (L2.CX P w) 5 fc fdc ["self", "other"] (sp_covers CP CUg)) (b_Prices_covers : Binds K fdc ["self", "other"] []) (kb_Prices_covers_other : KBinds K fdc ["self", "other"] ["other"] kwG kwG)
    (me_Prices_in_unit : Meth K CP "in_unit" fs) (G_Prices_in_unit : FnOk P w K mg base (L2.CX P w) 6 fs fds ["self", "unit"] (sp_scaled K CP CU)) (b_Prices_in_unit : Binds K fds ["self", "unit"] []) (kb_Prices_in_unit_unit : KBinds K fds ["self", "unit"] ["unit"] kwG kwG)
    (pr_Prices_unit : PropOf K CP "unit" pu fu) (G_Prices_unit : FnOk P w K mg base CX0 1 fu fdu ["self"] (getSp CP "_unit")) (b_Prices_unit : Binds K fdu ["self"] [])
    (me_Prices_amounts : Meth K CP "amounts" fa) (G_Prices_amounts : FnOk P w K mg base CX0 1 fa fda ["self"] (sp_amounts CP)) (b_Prices_amounts : Binds K fda ["self"] [])
    (m_len : mg "len" = none) (m_range : mg "range" = none) : FnOk P w K mg base CX0 9 f fd ["_law_script"] (sp_law K) := by
  refine F.ok sc_law (fun vs H Q E h => ?_) (fun cdv A outer s H vs Q E hr h => ?_)
  · obtain ⟨a, ns, rfl, _⟩ := h
    rfl
  · obtain ⟨a, ns, rfl, hS, hlen, hQ⟩ := h
    refine ⟨_, (pss_cons (ps_set (i := 1) sc_law.nd rfl (by first | exact .inl rfl | exact .inr rfl) (pe_call G_law_start (hr.mono (by decide)) (by rfl) g_law_start F_law_start.kp b_law_start .nil pass0 (pa_cons (pv 0) pa_nil)))
  (Evl.pss_cut (ps_set (i := 2) sc_law.nd rfl (by first | exact .inl rfl | exact .inr rfl) (pe_call G_law_names (hr.mono (by decide)) (by rfl) g_law_names F_law_names.kp b_law_names .nil pass0 (pa_cons (pv 1) (pa_cons (pe_op op_add pe_int (pe_call G_law_draw (hr.mono (by decide)) (by rfl) g_law_draw F_law_draw.kp b_law_draw .nil pass0 (pa_cons (pv 1) (pa_cons pe_int pa_nil)))) pa_nil))))
  (Evl.pss_cut (ps_set (i := 3) sc_law.nd rfl (by first | exact .inl rfl | exact .inr rfl) (pe_tup (pa_cons (pe_call G_law_costs (hr.mono (by decide)) (by rfl) g_law_costs F_law_costs.kp b_law_costs .nil pass0 (pa_cons (pv 1) (pa_cons (pv 2) (pa_cons (pe_ix ix_list (pe_lst (pa_cons pe_int (pa_cons pe_int (pa_cons (pe_op op_pow pe_int pe_int) pa_nil)))) (pe_call G_law_draw (hr.mono (by decide)) (by rfl) g_law_draw F_law_draw.kp b_law_draw .nil pass0 (pa_cons (pv 1) (pa_cons pe_int pa_nil))) (fun _ _ => rfl)) pa_nil)))) (pa_cons (pe_op op_add pe_int (pe_call G_law_draw (hr.mono (by decide)) (by rfl) g_law_draw F_law_draw.kp b_law_draw .nil pass0 (pa_cons (pv 1) (pa_cons pe_int pa_nil)))) pa_nil))))
  (Evl.pss_cut (ps_set (i := 4) sc_law.nd rfl (by first | exact .inl rfl | exact .inr rfl) (pe_makeK M_Prices G_Prices_init (hr.mono (by decide)) (by rfl) g_Prices kb_Prices_unit passL (pa_cons (pe_ix ix_tup (pv 3) pe_int (fun _ _ => rfl)) pa_nil) (pk_cons (pe_ix ix_tup (pv 3) pe_int (fun _ _ => rfl)) pk_nil)))
  (Evl.pss_cut (ps_for PassesOwn.never rfl  (pi_range1 (by rfl) m_range (pa_cons pe_int pa_nil)) (pg_name (i := 5) sc_law.nd rfl (by first | exact .inl rfl | exact .inr rfl))
   (pss_cons (ps_set (i := 6) sc_law.nd rfl (by first | exact .inl rfl | exact .inr rfl) (pe_call G_law_other (hr.mono (by decide)) (by rfl) g_law_other F_law_other.kp b_law_other .nil pass0 (pa_cons (pv 1) (pa_cons (pv 3) pa_nil))))
  (pss_cons (ps_set (i := 7) sc_law.nd rfl (by first | exact .inl rfl | exact .inr rfl) (pe_makeK M_Prices G_Prices_init (hr.mono (by decide)) (by rfl) g_Prices kb_Prices_unit passL (pa_cons (pe_ix ix_tup (pv 6) pe_int (fun _ _ => rfl)) pa_nil) (pk_cons (pe_ix ix_tup (pv 6) pe_int (fun _ _ => rfl)) pk_nil)))
  (Evl.pss_cut (ps_if (pt_not (pt_val (pe_call G_law_compared (hr.mono (by decide)) (by rfl) g_law_compared F_law_compared.kp b_law_compared .nil pass0 (pa_cons (pv 3) (pa_cons (pv 6) (pa_cons (pv 4) (pa_cons (pv 7) pa_nil)))))))
   (pss_one (ps_ret pe_bl))
   pss_nil)
  (pss_cons (ps_set (i := 8) sc_law.nd rfl (by first | exact .inl rfl | exact .inr rfl) (pe_ix ix_list (pe_op op_cat (pv 2) (pe_lst (pa_cons pe_str (pa_cons pe_str pa_nil)))) (pe_call G_law_draw (hr.mono (by decide)) (by rfl) g_law_draw F_law_draw.kp b_law_draw .nil pass0 (pa_cons (pv 1) (pa_cons (pe_op op_add (pe_callB call_len_seq (by rfl) m_len PySem.boot_len (pa_cons (pv 2) pa_nil)) pe_int) pa_nil))) (fun _ _ => rfl)))
  (pss_cons (ps_set (i := 9) sc_law.nd rfl (by first | exact .inl rfl | exact .inr rfl) (pe_ix ix_list (pe_lst (pa_cons pe_int (pa_cons pe_int (pa_cons pe_int (pa_cons (pe_op op_pow pe_int pe_int) (pa_cons (pe_un un_neg pe_int) (pa_cons (pe_un un_neg pe_int) (pa_cons pe_bl (pa_cons pe_non pa_nil))))))))) (pe_call G_law_draw (hr.mono (by decide)) (by rfl) g_law_draw F_law_draw.kp b_law_draw .nil pass0 (pa_cons (pv 1) (pa_cons pe_int pa_nil))) (fun _ _ => rfl)))
  (Evl.pss_cut (ps_if (pt_cmpR (op_neL (n := 8) (Nat.lt_of_le_of_lt (Nat.add_le_add_left (show 9 ≤ 64 by decide) _) hr.units)) (pe_call G_law_raised (hr.mono (by decide)) (by rfl) g_law_raised F_law_raised.kp b_law_raised .nil pass0 (pa_cons (pv 4) (pa_cons (pv 8) (pa_cons (pv 9) pa_nil)))) (pe_call G_law_raised_due (hr.mono (by decide)) (by rfl) g_law_raised_due F_law_raised_due.kp b_law_raised_due .nil pass0 (pa_cons (pv 3) (pa_cons (pv 8) (pa_cons (pv 9) pa_nil)))) (nomark _))
   (pss_one (ps_ret pe_bl))
   pss_nil)
  (pss_cons (ps_set (i := 10) sc_law.nd rfl (by first | exact .inl rfl | exact .inr rfl) (pe_ix ix_list (pe_lst (pa_cons (pe_ix ix_tup (pv 3) pe_int (fun _ _ => rfl)) (pa_cons (pe_op op_mul (pe_ix ix_tup (pv 3) pe_int (fun _ _ => rfl)) pe_int) (pa_cons (pe_op op_mul (pe_ix ix_tup (pv 3) pe_int (fun _ _ => rfl)) pe_int) (pa_cons (pe_op op_add (pe_ix ix_tup (pv 3) pe_int (fun _ _ => rfl)) pe_int) (pa_cons pe_int (pa_cons (pe_un un_neg (pe_ix ix_tup (pv 3) pe_int (fun _ _ => rfl))) (pa_cons pe_int (pa_cons pe_bl (pa_cons pe_non pa_nil)))))))))) (pe_call G_law_draw (hr.mono (by decide)) (by rfl) g_law_draw F_law_draw.kp b_law_draw .nil pass0 (pa_cons (pv 1) (pa_cons pe_int pa_nil))) (fun _ _ => rfl)))
  (pss_one (ps_if (pt_cmpR (op_neL (n := 8) (Nat.lt_of_le_of_lt (Nat.add_le_add_left (show 9 ≤ 64 by decide) _) hr.units)) (pe_call G_law_scaled (hr.mono (by decide)) (by rfl) g_law_scaled F_law_scaled.kp b_law_scaled .nil pass0 (pa_cons (pv 4) (pa_cons (pv 10) pa_nil))) (pe_call G_law_scaled_due (hr.mono (by decide)) (by rfl) g_law_scaled_due F_law_scaled_due.kp b_law_scaled_due .nil pass0 (pa_cons (pv 3) (pa_cons (pv 10) pa_nil))) (nomark _))
   (pss_one (ps_ret pe_bl))
   pss_nil))))))))))
  (pss_cons (ps_set (i := 11) sc_law.nd rfl (by first | exact .inl rfl | exact .inr rfl) (pe_methK (pv 4) c_Prices me_Prices_raised G_Prices_raised (hr.mono (by decide)) kb_Prices_raised_by_good passL (pk_cons pe_int (pk_cons (pe_ix ix_list (pv 2) pe_int (fun _ _ => rfl)) pk_nil))))
  (pss_cons (ps_if (PW.pt (pw_or (pt_not (pt_val (pe_methK (pv 11) c_Prices me_Prices_covers G_Prices_covers (hr.mono (by decide)) kb_Prices_covers_other passL (pk_cons (pv 4) pk_nil)))) (pw_or (pt_val (pe_meth (pv 4) c_Prices me_Prices_covers G_Prices_covers (hr.mono (by decide)) b_Prices_covers .nil passL (pa_cons (pv 11) pa_nil))) (pw_or (pt_cmpR (op_neOwn O_Prices N_Prices G_Prices_eq (hr.mono (by decide)) b_Prices_eq pass0) (pe_methK (pv 4) c_Prices me_Prices_in_unit G_Prices_in_unit (hr.mono (by decide)) kb_Prices_in_unit_unit passL (pk_cons (pe_op op_mul (pe_ix ix_tup (pv 3) pe_int (fun _ _ => rfl)) pe_int) pk_nil)) (pv 4) (nomark _)) (pw_or1 (pt_cmpR (op_eqOwn O_Prices G_Prices_eq (hr.mono (by decide)) b_Prices_eq pass0) (pv 11) (pv 4) (nomark _)))))))
   (pss_one (ps_ret pe_bl))
   pss_nil)
  (pss_cons (ps_if (pt_cmpR (op_neOwn O_Prices N_Prices G_Prices_eq (hr.mono (by decide)) b_Prices_eq pass0) (pe_meth (pe_meth (pv 4) c_Prices me_Prices_in_unit G_Prices_in_unit (hr.mono (by decide)) b_Prices_in_unit .nil passL (pa_cons (pe_op op_mul (pe_ix ix_tup (pv 3) pe_int (fun _ _ => rfl)) pe_int) pa_nil)) c_Prices me_Prices_raised G_Prices_raised (hr.mono (by decide)) b_Prices_raised .nil passL (pa_cons (pe_ix ix_list (pv 2) (pe_un un_neg pe_int) (fun _ _ => rfl)) (pa_cons pe_int pa_nil))) (pe_meth (pv 4) c_Prices me_Prices_raised G_Prices_raised (hr.mono (by decide)) b_Prices_raised .nil passL (pa_cons (pe_ix ix_list (pv 2) (pe_un un_neg pe_int) (fun _ _ => rfl)) (pa_cons pe_int pa_nil))) (nomark _))
   (pss_one (ps_ret pe_bl))
   pss_nil)
  (pss_one (ps_ret (pe_and (pe_cmpR (op_eqG (rcG_dict (n := 0)) (hr.mono (Nat.zero_le _))) (pe_meth0 (pv 4) c_Prices me_Prices_amounts G_Prices_amounts (hr.mono (by decide)) b_Prices_amounts .nil pass0) (pe_ix ix_tup (pv 3) pe_int (fun _ _ => rfl)) (nomark _)) (pe_one (pe_cmpR op_eq (pe_prop (pv 4) c_Prices pr_Prices_unit G_Prices_unit (hr.mono (by decide)) b_Prices_unit .nil pass0 rfl) (pe_ix ix_tup (pv 3) pe_int (fun _ _ => rfl)) (nomark _)))))))))))))), ?_⟩
    refine ⟨.ref a, rfl, a, ns, rfl, hS, hlen, fun st H1 D1 _ => ?_⟩
    -- the names
    refine ⟨fun σ' H' => ∃ (wd : Addr) (ws : List Str), σ' = [some (.ref a), some (.ref st), some (.ref wd), none, none, none, none, none, none, none, none, none] ∧ DS H' st 100 ∧ Ap H' st wd (.lst (ws.map V.str)) ∧ 1 ≤ ws.length ∧ ws.length ≤ 5 ∧ (∀ z ∈ ws, vn z = true) ∧ ws.Nodup, ?_, ?_⟩
    · refine ⟨.ref st, rfl, .ref st, rfl, st, 5, 0, rfl, D1, by omega, by omega, by omega, fun dd H3 d0 d1 D3 k3 => ⟨1, dd, rfl, rfl, st, 1 + dd, 1, rfl, D3, by omega, by omega, by omega, fun q ws H5 D5 k5 fr ap hl hv nd => ⟨q, ws, rfl, D5.mono (by omega), ap, by omega, by omega, hv, nd⟩⟩⟩
    clear D1 hS hlen
    rintro σ' H' ⟨wd, ws, rfl, D, aw, wl1, wl5, wv, wn⟩
    -- amounts and a unit
    refine ⟨fun σ' H' => ∃ (t d : Addr) (kvs : List (Key × V)) (ks : List Str) (ui : Int), σ' = [some (.ref a), some (.ref st), some (.ref wd), some (.ref t), none, none, none, none, none, none, none, none] ∧ DS H' st 200 ∧ Bs st wd t d ws kvs ks ui H' ∧ Fs ws kvs ks ui, ?_, ?_⟩
    · refine ⟨.ref st, rfl, .ref wd, rfl, 10, 12, rfl, rfl, ⟨by omega, by omega, by decide +kernel⟩, by show 3 ≤ sizeLine; decide, fun p np => ?_⟩
      have D2 := D.new (o := .lst [.int 3, .int 60, .int (10 ^ (12 : Int).toNat)]) np
      have k2 := D.newK (o := .lst [.int 3, .int 60, .int (10 ^ (12 : Int).toNat)]) np
      have ap2 := D.fresh (o := .lst [.int 3, .int 60, .int (10 ^ (12 : Int).toNat)]) np
      refine ⟨.ref st, rfl, st, 3, 100, rfl, D2, by omega, by omega, by omega, fun d2 H3 d20 d21 D3 k3 => ?_⟩
      obtain ⟨v, hv, hm⟩ := atI_some (xs := [V.int 3, .int 60, .int (10 ^ (12 : Int).toNat)]) d20 d21
      obtain ⟨scale, rfl, s0, s1⟩ : ∃ scale : Int, v = .int scale ∧ 0 < scale ∧ scale ≤ 1000000000000 := by
        simp only [List.mem_cons, List.not_mem_nil, or_false] at hm
        rcases hm with rfl | rfl | rfl
        · exact ⟨_, rfl, by omega, by omega⟩
        · exact ⟨_, rfl, by omega, by omega⟩
        · exact ⟨_, rfl, by decide +kernel, by decide +kernel⟩
      have aw3 := (k2.trans k3) _ _ aw
      refine ⟨p, _, d2, .int scale, rfl, rfl, Evl.sq_of (k3 _ _ ap2).1, hv, st, wd, 101, ws, scale, rfl, D3, by omega, Evl.sq_of aw3.1, by omega, s0, by omega, fun d kvs ks H4 D4 k4 fr ad hk hn hl hm hv => ?_⟩
      refine ⟨.ref st, rfl, st, 12, 101 + 2 * ws.length, rfl, D4, by omega, by omega, by omega, fun e H5 e0 e1 D5 k5 => ⟨1, e, rfl, rfl, by show 2 ≤ sizeLine; decide, fun t nt => ?_⟩⟩
      have k6 := D5.newK (o := .tup [.ref d, .int (1 + e)]) nt
      have hperm : ks.Perm ws := (List.perm_ext_iff_of_nodup hn wn).mpr hm
      have hlen := hperm.length_eq
      refine ⟨t, d, kvs, ks, 1 + e, rfl, (D5.new nt).mono (by omega), ⟨(k4.trans (k5.trans k6)) _ _ aw3, D5.fresh nt, (k5.trans k6) _ _ ad⟩, ⟨hk, hn, by omega, by omega, fun s hs => wv s (hperm.mem_iff.mp hs), fun s hs => ?_, by omega, by omega, fun s hs => hperm.mem_iff.mpr hs, hlen.symm⟩⟩
      obtain ⟨v, h1, p, hp, h2⟩ := hk.at hs
      obtain ⟨i, h3, i0, i1⟩ := hv p hp
      refine ⟨i, ?_, i0, by omega⟩
      unfold amt
      rw [h1, ← h2, h3]
      rfl
    clear D aw wl1 wl5 wv wn
    rintro σ' H' ⟨t, d, kvs, ks, ui, rfl, D, B, f0⟩
    -- prices
    refine ⟨fun σ' H' => ∃ x, σ' = [some (.ref a), some (.ref st), some (.ref wd), some (.ref t), some (.ref x), none, none, none, none, none, none, none] ∧ DS H' st 200 ∧ Bs st wd t d ws kvs ks ui H' ∧ PrS CP st x kvs ks (.int ui) H', ?_, ?_⟩
    · refine ⟨.ref t, rfl, ⟨t, _, 0, .ref d, rfl, rfl, Evl.st_of B.at_.1, atI_nat (j := 0) rfl, .ref t, rfl, ⟨t, _, 1, .int ui, rfl, rfl, Evl.st_of B.at_.1, atI_nat (j := 1) rfl, rfl, rfl, fun x dx nx nd nxd => ?_⟩⟩⟩
      exact init_ok D B.ad f0.kd f0.nd f0.l1 f0.l5 f0.vn f0.rg f0.u1 nx nd (Ne.symm nxd) fun H1 D1 k1 hp => ⟨rfl, x, rfl, D1, B.kp k1, hp⟩
    clear D B
    rintro σ' H' ⟨x, rfl, D, B, hp⟩
    have hTx := tx_vn f0.vn
    have hN := f0.rg.nat (by decide)
    have hSm := f0.rg.sml (by decide)
    have u1 := f0.u1
    have u2 := f0.u2
    have l1 := f0.l1
    have l5 := f0.l5
    -- three turns
    refine ⟨fun σ' H' => ∃ a5 a6 a7 a8 a9 a10, σ' = [some (.ref a), some (.ref st), some (.ref wd), some (.ref t), some (.ref x), a5, a6, a7, a8, a9, a10, none] ∧ DS H' st 500 ∧ Bs st wd t d ws kvs ks ui H' ∧ PrS CP st x kvs ks (.int ui) H', ?_, ?_⟩
    · refine Evl.s_forR1 (n := 3) (Evl.ea_cons Evl.ev_c Evl.ea_nil) (by omega) (fun i σ' H' => ∃ a5 a6 a7 a8 a9 a10, σ' = [some (.ref a), some (.ref st), some (.ref wd), some (.ref t), some (.ref x), a5, a6, a7, a8, a9, a10, none] ∧ DS H' st (200 + 100 * i) ∧ Bs st wd t d ws kvs ks ui H' ∧ PrS CP st x kvs ks (.int ui) H')
        (fun H1 e1 => ⟨none, none, none, none, none, none, rfl, D.ex e1, B.kp (D.exK e1), hp.kp (D.exK e1)⟩) (fun i σ' H1 hi ⟨a5, a6, a7, a8, a9, a10, es, Di, Bi, pi⟩ => ?_) (fun σ' H1 ⟨a5, a6, a7, a8, a9, a10, es, Di, Bi, pi⟩ => ⟨a5, a6, a7, a8, a9, a10, es, Di, Bi, pi⟩)
      subst es
      try dsimp only [gName, List.set]
      -- other prices
      refine ⟨.ref st, rfl, .ref t, rfl, st, t, d, 200 + 100 * i, kvs, ks, ui, rfl, Di, by omega, Bi.at_, Bi.ad, f0.kd, f0.nd, l1, l5, hTx, f0.vn, f0.rg, u1, u2, fun t2 d2 kvs2 ks2 uj H2 D2 k2 at2 ad2 c2 j1 j2 => ?_⟩
      have B2 := Bi.kp k2
      have p2 := pi.kp k2
      try dsimp only [gName, List.set]
      refine ⟨.ref t2, rfl, ⟨t2, _, 0, .ref d2, rfl, rfl, Evl.st_of at2.1, atI_nat (j := 0) rfl, .ref t2, rfl, ⟨t2, _, 1, .int uj, rfl, rfl, Evl.st_of at2.1, atI_nat (j := 1) rfl, rfl, rfl, fun y dy ny ndy nyd => ?_⟩⟩⟩
      refine init_ok D2 ad2 c2.kd c2.nd c2.l1 c2.l5 c2.vn c2.rg j1 ny ndy (Ne.symm nyd) fun H3 D3 k3 hy3 => ⟨rfl, ?_⟩
      have B3 := B2.kp k3
      have p3 := p2.kp k3
      have at3 := k3 _ _ at2
      have ad3 := k3 _ _ ad2
      try dsimp only [gName, List.set]
      -- compared
      have S1 : PS CP x t kvs ks ui H3 := ⟨p3.at, ⟨d, B3.at_.1, B3.ad.1⟩, f0.kd, f0.nd, l5, hTx, hSm⟩
      have S2 : PS CP y t2 kvs2 ks2 uj H3 := ⟨hy3.at, ⟨d2, at3.1, ad3.1⟩, c2.kd, c2.nd, c2.l5, tx_vn c2.vn, c2.rg.sml (by decide)⟩
      refine ⟨fun σ' H' => σ' = [some (.ref a), some (.ref st), some (.ref wd), some (.ref t), some (.ref x), some (.int (i : Int)), some (.ref t2), some (.ref y), a8, a9, a10, none] ∧ DS H' st (200 + 100 * i + 60) ∧ Bs st wd t d ws kvs ks ui H' ∧ PrS CP st x kvs ks (.int ui) H', ?_, ?_⟩
      · refine Evl.s_when (b := false) (Evl.et_is (Evl.et_not (Evl.et_B (Evl.ev_call (z := .bl true) (Evl.ea_cons (Evl.ev_var rfl) (Evl.ea_cons (Evl.ev_var rfl) (Evl.ea_cons (Evl.ev_var rfl) (Evl.ea_cons (Evl.ev_var rfl) Evl.ea_nil)))) fun H4 e4 Q q E => ⟨t, t2, x, y, kvs, kvs2, ks, ks2, ui, uj, rfl, S1.ex e4, S2.ex e4, fun H5 e5 => q H5 e5⟩))) rfl) (fun h => by cases h) (fun _ H4 e4 => ⟨rfl, D3.ex e4, B3.kp (D3.exK e4), p3.kp (D3.exK e4)⟩)
      clear D3 B3 p3 at3 ad3 S1 S2 D2 B2 p2 at2 ad2 k2 k3 hy3 Di Bi pi
      rintro σ' H4 ⟨rfl, D4, B4, p4⟩
      -- raised
      refine ⟨.ref wd, rfl, by show 2 ≤ sizeLine; decide, fun q1 nq1 => ⟨wd, q1, _, _, rfl, rfl, by rw [upd_ne (ne_of_none B4.aw.1 nq1)]; exact B4.aw.1, upd_same, Nat.le_of_lt (Evl.sz_lt (by rw [List.length_map, f0.wl]; show ks.length + 2 < 100000; omega)), fun q2 nq2 => ?_⟩⟩
      have D5 := D4.new (o := .lst [.str "zz8", .str ""]) nq1
      have k5 := D4.newK (o := .lst [.str "zz8", .str ""]) nq1
      have D6 := D5.new (o := .lst (ws.map V.str ++ [.str "zz8", .str ""])) nq2
      have k6 := D5.newK (o := .lst (ws.map V.str ++ [.str "zz8", .str ""])) nq2
      have aq6 := D5.fresh (o := .lst (ws.map V.str ++ [.str "zz8", .str ""])) nq2
      have B6 := B4.kp (k5.trans k6)
      have p6 := p4.kp (k5.trans k6)
      refine ⟨.ref st, rfl, .ref wd, rfl, wd, _, rfl, .inl (Evl.sq_of B6.aw.1), _, _, rfl, rfl, st, ((ws.map V.str).length : Int) + 2, 200 + 100 * i + 60, rfl, D6, by omega, by omega, by rw [List.length_map, f0.wl]; omega, fun d7 H7 d70 d71 D7 k7 => ?_⟩
      obtain ⟨v7, hv7, hm7⟩ := atI_some (xs := ws.map V.str ++ [.str "zz8", .str ""]) d70 (by rw [List.length_append]; exact d71)
      obtain ⟨z, rfl⟩ : ∃ z, v7 = .str z := by
        rw [List.mem_append] at hm7
        rcases hm7 with h | h
        · obtain ⟨z, _, e⟩ := List.mem_map.mp h
          exact ⟨z, e.symm⟩
        · simp only [List.mem_cons, List.not_mem_nil, or_false] at h
          rcases h with rfl | rfl <;> exact ⟨_, rfl⟩
      refine ⟨q2, _, d7, .str z, rfl, rfl, Evl.sq_of (k7 _ _ aq6).1, hv7, ?_⟩
      have B7 := B6.kp k7
      have p7 := p6.kp k7
      try dsimp only [gName, List.set]
      clear D4 B4 p4 D5 k5 D6 k6 aq6 B6 p6 k7 hm7 hv7 d70 d71 nq1 nq2
      refine ⟨10, 15, rfl, rfl, ⟨by omega, by omega, by decide +kernel⟩, _, rfl, _, rfl, by show 8 ≤ sizeLine; decide, fun q3 nq3 => ?_⟩
      have D8 := D7.new (o := .lst [.int 0, .int 1, .int 5, .int (10 ^ (15 : Int).toNat), .int (-1), .int (-2), .bl true, .non]) nq3
      have k8 := D7.newK (o := .lst [.int 0, .int 1, .int 5, .int (10 ^ (15 : Int).toNat), .int (-1), .int (-2), .bl true, .non]) nq3
      have aq8 := D7.fresh (o := .lst [.int 0, .int 1, .int 5, .int (10 ^ (15 : Int).toNat), .int (-1), .int (-2), .bl true, .non]) nq3
      refine ⟨.ref st, rfl, st, 8, 200 + 100 * i + 61, rfl, D8, by omega, by omega, by omega, fun d9 H9 d90 d91 D9 k9 => ?_⟩
      obtain ⟨v9, hv9, hm9⟩ := atI_some (xs := [V.int 0, .int 1, .int 5, .int (10 ^ (15 : Int).toNat), .int (-1), .int (-2), .bl true, .non]) d90 d91
      have hA9 : ∀ H, AmX H v9 := fun H => by
        simp only [List.mem_cons, List.not_mem_nil, or_false] at hm9
        rcases hm9 with rfl | rfl | rfl | rfl | rfl | rfl | rfl | rfl
        · exact .inl ⟨_, rfl⟩
        · exact .inl ⟨_, rfl⟩
        · exact .inl ⟨_, rfl⟩
        · exact .inl ⟨_, rfl⟩
        · exact .inl ⟨_, rfl⟩
        · exact .inl ⟨_, rfl⟩
        · exact .inr (.inl ⟨_, rfl⟩)
        · exact .inr (.inr (.inl rfl))
      refine ⟨q3, _, d9, v9, rfl, rfl, Evl.sq_of (k9 _ _ aq8).1, hv9, ?_⟩
      have B9 := (B7.kp k8).kp k9
      have p9 := (p7.kp k8).kp k9
      try dsimp only [gName, List.set]
      clear D7 B7 p7 D8 k8 aq8 k9 hm9 hv9 d90 d91 nq3
      refine ⟨fun σ' H' => σ' = [some (.ref a), some (.ref st), some (.ref wd), some (.ref t), some (.ref x), some (.int (i : Int)), some (.ref t2), some (.ref y), some (.str z), some v9, a10, none] ∧ DS H' st (200 + 100 * i + 70) ∧ Bs st wd t d ws kvs ks ui H' ∧ PrS CP st x kvs ks (.int ui) H', ?_, ?_⟩
      · refine Evl.s_when (b := false) (Evl.et_test fun H3 e3 Q q => ?_) (fun h => by cases h) (fun _ H4 e4 => ⟨rfl, (D9.ex e4).mono (by omega), B9.kp (D9.exK e4), p9.kp (D9.exK e4)⟩)
        refine ⟨.ref x, rfl, .str z, rfl, v9, rfl, x, z, v9, kvs, ks, ui, rfl, p9.at.ex e3, f0.kd, f0.nd, hTx, f0.gr, hN, u1, hA9 _, fun H4 r1 e4 h4 => ⟨.ref t, rfl, .str z, rfl, v9, rfl, t, d, z, v9, kvs, ks, ui, rfl, (e3.trans e4) _ _ B9.at_.1, (e3.trans e4) _ _ B9.ad.1, f0.kd, f0.nd, l5, hN, hA9 _, fun H5 r2 e5 h5 => ?_⟩⟩
        exact ToldAt.ne (h4.ex e5) h5 (raisedL_ok f0.kd hTx hN (hA9 H5)) (q H5 (e4.trans e5))
      clear D9 B9 p9 hA9
      rintro σ' H4 ⟨rfl, D4, B4, p4⟩
      -- in another unit
      have pr : ∀ {H5 : Hp}, Evl.Ex H4 H5 → Evl.Ev (tOp (rIxT K) (tVar 3) (tC (.int 1))) [some (.ref a), some (.ref st), some (.ref wd), some (.ref t), some (.ref x), some (.int (i : Int)), some (.ref t2), some (.ref y), some (.str z), some v9, a10, none] H5 (.int ui) := fun {H5} e => ev_pair (K := K) (j := 1) rfl (e _ _ B4.at_.1) rfl
      have pr0 := pr (Evl.Ex.refl H4)
      have hl : Evl.EvL (tLst (tCons (tOp (rIxT K) (tVar 3) (tC (.int 1))) (tCons (tOp (rI CMul fun i j => .int (i * j)) (tOp (rIxT K) (tVar 3) (tC (.int 1))) (tC (.int 2))) (tCons (tOp (rI CMul fun i j => .int (i * j)) (tOp (rIxT K) (tVar 3) (tC (.int 1))) (tC (.int 7))) (tCons (tOp (rI0 fun i j => .int (i + j)) (tOp (rIxT K) (tVar 3) (tC (.int 1))) (tC (.int 1))) (tCons (tC (.int 0)) (tCons (tUn (rU fun i => .int (-i)) (tOp (rIxT K) (tVar 3) (tC (.int 1)))) (tCons (tC (.int 1)) (tCons (tC (.bl true)) (tCons (tC .non) tNil))))))))))
          [some (.ref a), some (.ref st), some (.ref wd), some (.ref t), some (.ref x), some (.int (i : Int)), some (.ref t2), some (.ref y), some (.str z), some v9, a10, none] H4 [.int ui, .int (ui * 2), .int (ui * 7), .int (ui + 1), .int 0, .int (-ui), .int 1, .bl true, .non] :=
        Evl.el_lst (Evl.ea_cons pr0 (Evl.ea_cons (Evl.ev_op pr0 Evl.ev_c (Evl.rv_I (.inl ⟨by omega, by omega⟩))) (Evl.ea_cons (Evl.ev_op pr0 Evl.ev_c (Evl.rv_I (.inl ⟨by omega, by omega⟩))) (Evl.ea_cons (Evl.ev_op pr0 Evl.ev_c Evl.rv_I0) (Evl.ea_cons Evl.ev_c (Evl.ea_cons (Evl.ev_un pr0 fun H1 _ Q q => ⟨_, rfl, q H1 (Evl.Ex.refl _)⟩) (Evl.ea_cons Evl.ev_c (Evl.ea_cons Evl.ev_c (Evl.ea_cons Evl.ev_c Evl.ea_nil))))))))) (by show 9 ≤ 100000; decide)
      refine q_asg_ixL hl fun q3 H5 nq3 e5 hq3 => ?_
      have D5 := D4.ex e5
      have aq5 := D4.exNew e5 nq3 hq3
      refine ⟨.ref st, rfl, st, 9, 200 + 100 * i + 70, rfl, D5, by omega, by omega, by omega, fun d9 H9 d90 d91 D9 k9 => ?_⟩
      obtain ⟨v8, hv8, hm8⟩ := atI_some (xs := [V.int ui, .int (ui * 2), .int (ui * 7), .int (ui + 1), .int 0, .int (-ui), .int 1, .bl true, .non]) d90 d91
      have hA8 : ∀ H, AmX H v8 := fun H => by
        simp only [List.mem_cons, List.not_mem_nil, or_false] at hm8
        rcases hm8 with rfl | rfl | rfl | rfl | rfl | rfl | rfl | rfl | rfl
        · exact .inl ⟨_, rfl⟩
        · exact .inl ⟨_, rfl⟩
        · exact .inl ⟨_, rfl⟩
        · exact .inl ⟨_, rfl⟩
        · exact .inl ⟨_, rfl⟩
        · exact .inl ⟨_, rfl⟩
        · exact .inl ⟨_, rfl⟩
        · exact .inr (.inl ⟨_, rfl⟩)
        · exact .inr (.inr (.inl rfl))
      have hB8 : ∀ zz, v8 = .int zz → zz < 2 ^ 64 := fun zz e => by
        subst e
        simp only [List.mem_cons, List.not_mem_nil, or_false, V.int.injEq, reduceCtorEq] at hm8
        have : (2 : Int) ^ 64 = 18446744073709551616 := by decide
        omega
      refine ⟨q3, _, d9, v8, rfl, rfl, Evl.sq_of (k9 _ _ aq5).1, hv8, ?_⟩
      have B9 := (B4.kp (D4.exK e5)).kp k9
      have p9 := (p4.kp (D4.exK e5)).kp k9
      try dsimp only [gName, List.set]
      refine Evl.s_when (b := false) (Evl.et_test fun H3 e3 Q q => ?_) (fun h => by cases h) (fun _ H4 e4 => ⟨_, _, _, _, _, _, rfl, (D9.ex e4).mono (by omega), B9.kp (D9.exK e4), p9.kp (D9.exK e4)⟩)
      refine ⟨.ref x, rfl, v8, rfl, x, v8, kvs, ks, ui, rfl, p9.at.ex e3, f0.kd, f0.nd, hTx, f0.gr, hN, u1, by omega, hA8 _, fun H4 r1 e4 h4 => ⟨.ref t, rfl, v8, rfl, t, d, v8, kvs, ks, ui, rfl, (e3.trans e4) _ _ B9.at_.1, (e3.trans e4) _ _ B9.ad.1, f0.kd, f0.nd, l5, hN, u1, by omega, hA8 _, hB8, fun H5 r2 e5 h5 => ?_⟩⟩
      exact ToldAt.ne (h4.ex e5) h5 (scaledL_ok f0.nd hTx (hA8 H5)) (q H5 (e4.trans e5))
    clear D B hp
    rintro σ' H' ⟨a5, a6, a7, a8, a9, a10, rfl, D, B, hp⟩
    obtain ⟨w0, hw0⟩ : ∃ w0, ws[0]? = some w0 := ⟨_, List.getElem?_eq_getElem (by rw [f0.wl]; omega)⟩
    have hw0k := f0.wk w0 (List.mem_of_getElem? hw0)
    obtain ⟨wz, hwz, hwzk⟩ : ∃ wz, atI (ws.map V.str) (-1) = some (.str wz) ∧ wz ∈ ks := by
      rcases List.eq_nil_or_concat ws with h | ⟨ws', wz, h⟩
      · have := f0.wl
        rw [h] at this
        have : ks.length = 0 := this.symm
        omega
      · refine ⟨wz, ?_, f0.wk wz (by rw [h]; simp)⟩
        rw [h]
        simp only [List.concat_eq_append, List.map_append, List.map_cons, List.map_nil]
        exact atI_last _ _
    obtain ⟨dx, gx, mx, vx, x1, x2, x3, x4⟩ := id hp.at
    -- one amount is raised
    refine ⟨.ref x, rfl, x, dx, _, rfl, x1, rfl, .ref wd, rfl, ⟨wd, _, 0, .str w0, rfl, rfl, Evl.sq_of B.aw.1, atI_nat (j := 0) (by rw [List.getElem?_map, hw0]; rfl), x, w0, .int 3, kvs, ks, ui, rfl, hp.at, f0.kd, f0.nd, hTx, f0.gr, hN, u1, .inl ⟨3, rfl⟩, fun h => absurd hw0k h, fun _ h => (by simp [whole] at h), fun j hz hb hj H1 y e1 hy => ?_⟩⟩
    cases hb
    try dsimp only [gName, List.set]
    have kdM := raisedD_kd (b := .int 3) f0.kd hw0k
    have rgM := f0.rg.raised hw0k (j := 3) (by decide)
    have smM := rgM.sml (by decide)
    have py : PrAt CP y (raisedD kvs w0 (.int 3)) ks (.int ui) H1 := hy.at
    obtain ⟨dy, gy, my, vy, y1, y2, y3, y4⟩ := id py
    have px : PrAt CP x kvs ks (.int ui) H1 := hp.at.ex e1
    have xx := e1 _ _ x1
    have ht1 := e1 _ _ B.at_.1
    have aw1 := e1 _ _ B.aw.1
    have hd1 := e1 _ _ B.ad.1
    refine Evl.q_when (b := false || (false || (false || false))) (Evl.et_or (Evl.et_is (b := false) (Evl.et_not (Evl.et_B (b := true) fun H2 e2 Q q => ?_)) rfl) fun _ => Evl.et_or (Evl.et_B (b := false) fun H2 e2 Q q => ?_) fun _ => Evl.et_or (Evl.et_test fun H2 e2 Q q => ?_) fun _ => Evl.et_test fun H2 e2 Q q => ?_) (fun h => by cases h) (fun _ H2 e2 => ?_)
    · refine ⟨.ref y, rfl, y, dy, _, rfl, e2 _ _ y1, rfl, .ref x, rfl, y, x, _, kvs, ks, ks, ui, ui, rfl, py.ex e2, px.ex e2, kdM, f0.kd, hTx, hTx, l5, l5, smM, hSm, fun h => absurd rfl h, fun _ H3 e3 => ?_⟩
      rw [cov_up u1 (by decide)]
      exact q H3 e3
    · refine ⟨.ref x, rfl, x, dx, _, rfl, e2 _ _ xx, rfl, .ref y, rfl, x, y, kvs, _, ks, ks, ui, ui, rfl, px.ex e2, py.ex e2, f0.kd, kdM, hTx, hTx, l5, l5, hSm, smM, fun h => absurd rfl h, fun _ H3 e3 => ?_⟩
      rw [cov_dn u1 (by decide) hw0k]
      exact q H3 e3
    · refine ⟨.ref x, rfl, x, dx, _, rfl, e2 _ _ xx, rfl, .ref t, rfl, ⟨t, _, 1, .int ui, rfl, rfl, Evl.st_of (e2 _ _ ht1), atI_nat (j := 1) rfl, ui, 3, rfl, rfl, .inl ⟨by omega, by omega⟩, x, .int (ui * 3), kvs, ks, ui, rfl, px.ex e2, f0.kd, f0.nd, hTx, f0.gr, hN, u1, by omega, .inl ⟨_, rfl⟩, fun hz => absurd (Int.mul_emod_right ui 3) (hz _ rfl (by omega)), fun q3 hv hq H3 y3' e3 hy3 => ?_⟩⟩
      have hq3 : q3 = 3 := by
        have := V.int.inj hv
        exact (Int.eq_of_mul_eq_mul_left (by omega) this).symm
      subst hq3
      have p3 := hy3.at
      obtain ⟨dz, gz, mz, vz, z1, _, _, _⟩ := id p3
      refine ⟨.ref x, rfl, y3', x, dz, dx, _, _, rfl, rfl, z1, (e2.trans e3) _ _ xx, .inl ⟨y3', x, timesD kvs ks 3, kvs, ks, ks, ui * 3, ui, rfl, p3, px.ex (e2.trans e3), timesD_kd kvs ks 3, f0.kd, hTx, hTx, l5, l5, (f0.rg.times f0.nd (q := 3) (by decide)).sml (by decide), hSm, fun H4 e4 => ⟨_, rfl, ?_⟩⟩⟩
      rw [eq_times f0.nd]
      exact q H4 (e3.trans e4)
    · refine ⟨.ref y, rfl, .ref x, rfl, y, x, dy, dx, _, _, rfl, rfl, e2 _ _ y1, e2 _ _ xx, .inl ⟨y, x, _, kvs, ks, ks, ui, ui, rfl, py.ex e2, px.ex e2, kdM, f0.kd, hTx, hTx, l5, l5, smM, hSm, fun H4 e4 => ⟨⟨_, rfl⟩, ?_⟩⟩⟩
      rw [eq_up u1 (by decide) hw0k]
      exact q H4 e4
    -- in another unit and raised
    have px2 := px.ex e2
    have xx2 := e2 _ _ xx
    have ht2 := e2 _ _ ht1
    have aw2 := e2 _ _ aw1
    have hd2 := e2 _ _ hd1
    have rg6 := f0.rg.times f0.nd (q := 6) (by decide)
    have kd6 := timesD_kd kvs ks 6
    refine Evl.q_when (b := false) (Evl.et_test fun H3 e3 Q q => ?_) (fun h => by cases h) (fun _ H3 e3 => ?_)
    · refine ⟨.ref x, rfl, x, dx, _, rfl, e3 _ _ xx2, rfl, .ref t, rfl, ⟨t, _, 1, .int ui, rfl, rfl, Evl.st_of (e3 _ _ ht2), atI_nat (j := 1) rfl, ui, 6, rfl, rfl, .inl ⟨by omega, by omega⟩, x, .int (ui * 6), kvs, ks, ui, rfl, px2.ex e3, f0.kd, f0.nd, hTx, f0.gr, hN, u1, by omega, .inl ⟨_, rfl⟩, fun hz => absurd (Int.mul_emod_right ui 6) (hz _ rfl (by omega)), fun q6 hv hq H4 y6 e4 hy6 => ?_⟩⟩
      have hq6 : q6 = 6 := by
        have := V.int.inj hv
        exact (Int.eq_of_mul_eq_mul_left (by omega) this).symm
      subst hq6
      have p6 := hy6.at
      obtain ⟨dz, gz, mz, vz, z1, _, _, _⟩ := id p6
      refine ⟨y6, dz, _, rfl, z1, rfl, .ref wd, rfl, _, rfl, ⟨wd, _, -1, .str wz, rfl, rfl, Evl.sq_of ((e3.trans e4) _ _ aw2), hwz, y6, wz, .int 18, timesD kvs ks 6, ks, ui * 6, rfl, p6, kd6, f0.nd, hTx, f0.gr, rg6.nat (by decide), by omega, .inl ⟨18, rfl⟩, fun h => absurd hwzk h, fun _ h => (by simp [whole] at h), fun j8 hz8 hb8 hj8 H5 y8 e5 hy8 => ?_⟩⟩
      cases hb8
      have p8 : PrAt CP y8 (raisedD (timesD kvs ks 6) wz (.int 18)) ks (.int (ui * 6)) H5 := hy8.at
      refine ⟨.ref x, rfl, x, dx, _, rfl, ((e3.trans e4).trans e5) _ _ xx2, rfl, .ref wd, rfl, _, rfl, ⟨wd, _, -1, .str wz, rfl, rfl, Evl.sq_of (((e3.trans e4).trans e5) _ _ aw2), hwz, x, wz, .int 3, kvs, ks, ui, rfl, px2.ex ((e3.trans e4).trans e5), f0.kd, f0.nd, hTx, f0.gr, hN, u1, .inl ⟨3, rfl⟩, fun h => absurd hwzk h, fun _ h => (by simp [whole] at h), fun j9 hz9 hb9 hj9 H6 y9 e6 hy9 => ?_⟩⟩
      cases hb9
      have p9 : PrAt CP y9 (raisedD kvs wz (.int 3)) ks (.int ui) H6 := hy9.at
      have p86 := p8.ex e6
      obtain ⟨da, ga, ma, va, a1, _, _, _⟩ := id p86
      obtain ⟨db, gb, mb, vb, b1, _, _, _⟩ := id p9
      refine ⟨y8, y9, da, db, _, _, rfl, rfl, a1, b1, .inl ⟨y8, y9, _, _, ks, ks, ui * 6, ui, rfl, p86, p9, raisedD_kd kd6 hwzk, raisedD_kd f0.kd hwzk, hTx, hTx, l5, l5, (rg6.raised hwzk (j := 18) (by decide)).sml (by decide), (f0.rg.raised hwzk (j := 3) (by decide)).sml (by decide), fun H7 e7 => ⟨_, rfl, ?_⟩⟩⟩
      rw [eq_both f0.nd hwzk]
      exact q H7 (((e4.trans e5).trans e6).trans e7)
    -- they stayed
    have px3 := px2.ex e3
    have xx3 := e3 _ _ xx2
    have hself := SameD_self f0.kd f0.nd
    refine Evl.s_ret (v := .bl (true && true)) (Evl.ev_andV (a := true) (b := true) (fun H4 e4 Q q => ?_) fun _ => Evl.ev_is (Evl.ev_op (x := .int ui) (y := .int ui) (fun H4 e4 Q q => ?_) (ev_pair (K := K) (j := 1) rfl (e3 _ _ ht2) rfl) (Evl.rv_eq rfl)) (by simp)) fun H4 _ => hQ H4
    · refine ⟨.ref x, rfl, x, dx, _, rfl, e4 _ _ xx3, rfl, x, kvs, ks, .int ui, rfl, px3.ex e4, fun p kv2 H5 e5 np hpp hs2 => ?_⟩
      refine ⟨.ref t, rfl, ⟨t, _, 0, .ref d, rfl, rfl, Evl.st_of ((e4.trans e5) _ _ (e3 _ _ ht2)), atI_nat (j := 0) rfl, ⟨p, d, kv2, kvs, rfl, rfl, hpp, (e4.trans e5) _ _ (e3 _ _ hd2), SameD.two' hs2 hself f0.kd fun s hs => ?_⟩, fun H6 e6 => q H6 (e5.trans e6)⟩⟩
      obtain ⟨i, hi, _⟩ := f0.rg s hs
      rw [hi]
      exact sameV_int i
    · exact ⟨.ref x, rfl, x, dx, _, rfl, e4 _ _ xx3, x, dx, _, .int ui, rfl, e4 _ _ xx3, rfl, q H4 (Evl.Ex.refl _)⟩
end
end Lw

namespace Lw
open PySem PySem.Spec PyProof.Rows L2
section
variable {K : PySem.W.Frag} {f : Addr} {fd : FuncData}
theorem binds_whole (F : FunD K "is_whole" "is_whole" (defArgs s_is_whole) (defBody s_is_whole) (defScope s_is_whole) [.non] [] f fd) : ∃ ds, Vals [.non] ds ∧ Binds K fd ["value", "least", "most"] ds :=
  F.binds1 2 0 (by simp) rfl fun T kV doc pm an cdv ct us its h1 h2 => match us, its, h1, h2 with
    | [_, _], [_], _, _ => ⟨_, rfl, rfl⟩
theorem binds_init0 (F : FunD K "__init__" "Prices.__init__" (defArgs s_Prices_init) (defBody s_Prices_init) (defScope s_Prices_init) [] [("unit", .int 1)] f fd) : ∃ ds, Vals [.int 1] ds ∧ Binds K fd ["self", "amounts", "unit"] ds :=
  F.binds0 2 (by simp) rfl fun D doc pm an cdv ct us ks h1 h2 => match us, ks, h1, h2 with
    | [_, _], [_], _, _ => ⟨_, _, _, _, _, _, rfl, rfl, rfl⟩
theorem kb_unit (F : FunD K "__init__" "Prices.__init__" (defArgs s_Prices_init) (defBody s_Prices_init) (defScope s_Prices_init) [] [("unit", .int 1)] f fd) : KBn K fd ["self", "amounts", "unit"] 2 ["unit"] (fun us ws => us ++ ws) (fun us ws => us ++ ws) := by
  obtain ⟨mv, h⟩ := F.kbinds0 (ps := ["self", "amounts", "unit"]) 2 ["unit"] [] (fun us _ ws => us ++ ws) (by simp) (by simp) (fun r1 _ r3 => r1.append r3) (fun D doc pm an cdv ct us mv ws h1 h2 h3 => match us, mv, ws, h1, h2, h3 with
    | [_, _], [], [_], _, _, _ => rfl)
  exact h
theorem kb_unit_amounts (F : FunD K "__init__" "Prices.__init__" (defArgs s_Prices_init) (defBody s_Prices_init) (defScope s_Prices_init) [] [("unit", .int 1)] f fd) : KBn K fd ["self", "amounts", "unit"] 1 ["unit", "amounts"] (fun us ws => us ++ ws.reverse) (fun us ws => us ++ ws.reverse) := by
  obtain ⟨mv, h⟩ := F.kbinds0 (ps := ["self", "amounts", "unit"]) 1 ["unit", "amounts"] [] (fun us _ ws => us ++ ws.reverse) (by simp) (by simp) (fun r1 _ r3 => r1.append r3.reverse) (fun D doc pm an cdv ct us mv ws h1 h2 h3 => match us, mv, ws, h1, h2, h3 with
    | [_], [], [_, _], _, _, _ => rfl)
  exact h
/-- a def with one default -/
theorem fund_dfl {x qual : Str} {st : Stmt} {oc : Value} {od an : Option Addr} {osl : Array (Option Value)} {kV doc pm cdv ct : Value} {T : Addr} {ocT : Value} {odT : Option Addr} {slT : Array (Option Value)} {n : Nat}
    (l : K.lookup f = some ⟨oc, od, .func (PySem.W.fnOf x qual (defArgs st) (defBody st) (defScope st) (.ref T) kV doc pm an cdv ct), osl⟩) (lT : K.lookup T = some ⟨ocT, odT, .seq #[Value.none] n, slT⟩) (c : PySem.W.codeIn K cdv qual = true) (k : PySem.W.keepIn K (.ref f) = true) :
    FunD K x qual (defArgs st) (defBody st) (defScope st) [.non] [] f (PySem.W.fnOf x qual (defArgs st) (defBody st) (defScope st) (.ref T) kV doc pm an cdv ct) :=
  ⟨⟨oc, od, .ref T, kV, doc, pm, an, cdv, ct, osl, rfl, l, c, .inr ⟨by simp, T, _, [Value.none], n, rfl, lT, rfl, .cons rfl .nil⟩, .inl rfl⟩, k⟩
/-- a def with one keyword-only default -/
theorem fund_kwd {x qual kn : Str} {v : V} {u : Value} {st : Stmt} {oc : Value} {od an : Option Addr} {osl : Array (Option Value)} {doc pm cdv ct : Value} {D : Addr}
    (l : K.lookup f = some ⟨oc, od, .func (PySem.W.fnOf x qual (defArgs st) (defBody st) (defScope st) .none (.ref D) doc pm an cdv ct), osl⟩) (lD : PySem.W.nsIn K D kn = some (some u)) (r : L2.RelV v u) (c : PySem.W.codeIn K cdv qual = true) (k : PySem.W.keepIn K (.ref f) = true) :
    FunD K x qual (defArgs st) (defBody st) (defScope st) [] [(kn, v)] f (PySem.W.fnOf x qual (defArgs st) (defBody st) (defScope st) .none (.ref D) doc pm an cdv ct) :=
  ⟨⟨oc, od, .none, .ref D, doc, pm, an, cdv, ct, osl, rfl, l, c, .inl ⟨rfl, rfl⟩, .inr ⟨D, rfl, fun q hq => by
    rw [List.mem_singleton.mp hq]
    exact ⟨u, lD, r⟩⟩⟩, k⟩
end
end Lw

namespace Lw
open PySem PySem.Spec PyProof.Rows L2
theorem all_mk {l : PySem.W.OpenLaw} {w : World} {K : PySem.W.Frag} {h : Heap} {mg : Str → Option Value} {fa : Addr} (X : K.In h) (G : h.Ns mainGlobals mg) (hfa : mg "law" = some (.ref fa))
    {CBadName IBadName : Addr} {fdBadName : FuncData}
    {CDuplicateName IDuplicateName : Addr} {fdDuplicateName : FuncData}
    {CUnknownName IUnknownName : Addr} {fdUnknownName : FuncData}
    {CBadCount IBadCount : Addr} {fdBadCount : FuncData}
    {CBadBundle IBadBundle : Addr} {fdBadBundle : FuncData}
    {CBadPrice IBadPrice : Addr} {fdBadPrice : FuncData}
    {CBadUnit IBadUnit : Addr} {fdBadUnit : FuncData}
    {CUnlikeGoods IUnlikeGoods : Addr} {fdUnlikeGoods : FuncData}
    {CP fi : Addr}
    {DD : Addr} {uU : Value}
    {odI anI : Option Addr} {slI : Array (Option Value)} {ocI dcI pmI cdI ctI : Value}
    {fm_goods pp_goods : Addr} {rest_goods : List Value}
    {odMgoods anMgoods : Option Addr} {slMgoods : Array (Option Value)} {ocMgoods kVMgoods dcMgoods pmMgoods cdMgoods ctMgoods : Value}
    {fm_unit pp_unit : Addr} {rest_unit : List Value}
    {odMunit anMunit : Option Addr} {slMunit : Array (Option Value)} {ocMunit kVMunit dcMunit pmMunit cdMunit ctMunit : Value}
    {fm_amounts : Addr}
    {odMamounts anMamounts : Option Addr} {slMamounts : Array (Option Value)} {ocMamounts kVMamounts dcMamounts pmMamounts cdMamounts ctMamounts : Value}
    {fm_total : Addr}
    {odMtotal anMtotal : Option Addr} {slMtotal : Array (Option Value)} {ocMtotal kVMtotal dcMtotal pmMtotal cdMtotal ctMtotal : Value}
    {fm_getitem : Addr}
    {odMgetitem anMgetitem : Option Addr} {slMgetitem : Array (Option Value)} {ocMgetitem kVMgetitem dcMgetitem pmMgetitem cdMgetitem ctMgetitem : Value}
    {fm_raised : Addr}
    {odMraised anMraised : Option Addr} {slMraised : Array (Option Value)} {ocMraised kVMraised dcMraised pmMraised cdMraised ctMraised : Value}
    {fm_in_unit : Addr}
    {odMin_unit anMin_unit : Option Addr} {slMin_unit : Array (Option Value)} {ocMin_unit kVMin_unit dcMin_unit pmMin_unit cdMin_unit ctMin_unit : Value}
    {fm_covers : Addr}
    {odMcovers anMcovers : Option Addr} {slMcovers : Array (Option Value)} {ocMcovers kVMcovers dcMcovers pmMcovers cdMcovers ctMcovers : Value}
    {fm_eq : Addr}
    {odMeq anMeq : Option Addr} {slMeq : Array (Option Value)} {ocMeq kVMeq dcMeq pmMeq cdMeq ctMeq : Value}
    {fw TT : Addr} {ocT : Value} {odT : Option Addr} {slT : Array (Option Value)} {nT : Nat}
    {odW anW : Option Addr} {slW : Array (Option Value)} {ocW kVW dcW pmW cdW ctW : Value}
    {f0 : Addr}
    {od0 an0 : Option Addr} {sl0 : Array (Option Value)} {oc0 kV0 dc0 pm0 cd0 ct0 : Value}
    {f1 : Addr}
    {od1 an1 : Option Addr} {sl1 : Array (Option Value)} {oc1 kV1 dc1 pm1 cd1 ct1 : Value}
    {f2 : Addr}
    {od2 an2 : Option Addr} {sl2 : Array (Option Value)} {oc2 kV2 dc2 pm2 cd2 ct2 : Value}
    {f3 : Addr}
    {od3 an3 : Option Addr} {sl3 : Array (Option Value)} {oc3 kV3 dc3 pm3 cd3 ct3 : Value}
    {f4 : Addr}
    {od4 an4 : Option Addr} {sl4 : Array (Option Value)} {oc4 kV4 dc4 pm4 cd4 ct4 : Value}
    {f5 : Addr}
    {od5 an5 : Option Addr} {sl5 : Array (Option Value)} {oc5 kV5 dc5 pm5 cd5 ct5 : Value}
    {f6 : Addr}
    {od6 an6 : Option Addr} {sl6 : Array (Option Value)} {oc6 kV6 dc6 pm6 cd6 ct6 : Value}
    {f7 : Addr}
    {od7 an7 : Option Addr} {sl7 : Array (Option Value)} {oc7 kV7 dc7 pm7 cd7 ct7 : Value}
    {f8 : Addr}
    {od8 an8 : Option Addr} {sl8 : Array (Option Value)} {oc8 kV8 dc8 pm8 cd8 ct8 : Value}
    {f9 : Addr}
    {od9 an9 : Option Addr} {sl9 : Array (Option Value)} {oc9 kV9 dc9 pm9 cd9 ct9 : Value}
    {f10 : Addr}
    {od10 an10 : Option Addr} {sl10 : Array (Option Value)} {oc10 kV10 dc10 pm10 cd10 ct10 : Value}
    {f11 : Addr}
    {od11 an11 : Option Addr} {sl11 : Array (Option Value)} {oc11 kV11 dc11 pm11 cd11 ct11 : Value}
    {f12 : Addr}
    {od12 an12 : Option Addr} {sl12 : Array (Option Value)} {oc12 kV12 dc12 pm12 cd12 ct12 : Value}
    {f13 : Addr}
    {od13 an13 : Option Addr} {sl13 : Array (Option Value)} {oc13 kV13 dc13 pm13 cd13 ct13 : Value}
    {f14 : Addr}
    {od14 an14 : Option Addr} {sl14 : Array (Option Value)} {oc14 kV14 dc14 pm14 cd14 ct14 : Value}
    {f15 : Addr}
    {od15 an15 : Option Addr} {sl15 : Array (Option Value)} {oc15 kV15 dc15 pm15 cd15 ct15 : Value}
    {f16 : Addr}
    {od16 an16 : Option Addr} {sl16 : Array (Option Value)} {oc16 kV16 dc16 pm16 cd16 ct16 : Value}
    {u_LETTERS : Value}
    {u_DIGITS : Value}
    {u_MOST_SIGNS : Value}
    {u_MOST_GOODS : Value}
    (E_BadName : ∀ base : Heap, ErC l.prog w K mg base "BadName" "name" CBadName IBadName fdBadName)
    (E_DuplicateName : ∀ base : Heap, ErC l.prog w K mg base "DuplicateName" "name" CDuplicateName IDuplicateName fdDuplicateName)
    (E_UnknownName : ∀ base : Heap, ErC l.prog w K mg base "UnknownName" "name" CUnknownName IUnknownName fdUnknownName)
    (E_BadCount : ∀ base : Heap, ErC l.prog w K mg base "BadCount" "count" CBadCount IBadCount fdBadCount)
    (E_BadBundle : ∀ base : Heap, ErC l.prog w K mg base "BadBundle" "value" CBadBundle IBadBundle fdBadBundle)
    (E_BadPrice : ∀ base : Heap, ErC l.prog w K mg base "BadPrice" "price" CBadPrice IBadPrice fdBadPrice)
    (E_BadUnit : ∀ base : Heap, ErC l.prog w K mg base "BadUnit" "value" CBadUnit IBadUnit fdBadUnit)
    (E_UnlikeGoods : ∀ base : Heap, ErC l.prog w K mg base "UnlikeGoods" "names" CUnlikeGoods IUnlikeGoods fdUnlikeGoods)
    (w_an : PySem.W.exmOne K (.ref CBadPrice) (.ref CUnknownName) = some false)
    (w_aa : PySem.W.exmOne K (.ref CBadPrice) (.ref CBadPrice) = some true)
    (w_uu : PySem.W.exmOne K (.ref CBadUnit) (.ref CBadUnit) = some true)
    (w_xn : PySem.W.exmOne K (.ref CUnknownName) (.ref CUnknownName) = some true)
    (w_gg : PySem.W.exmOne K (.ref CUnlikeGoods) (.ref CUnlikeGoods) = some true)
    (aCP : PySem.W.nsIn K mainGlobals "Prices" = some (some (.ref CP)))
    (pg_ : PySem.W.plainGet K CP Str.empty = true)
    (hd_ : PySem.W.hasDictIn K CP = true)
    (po_ : PySem.W.plainOver K CP = true)
    (sa_ : PySem.W.findIn K (.ref CP) "__setattr__" = some (some (.builtin "object.__setattr__")))
    (mk_ : PySem.W.makesIn K CP = true)
    (kc_ : PySem.W.keepIn K (.ref CP) = true)
    (ai_ : PySem.W.findIn K (.ref CP) "__init__" = some (some (.ref fi)))
    (ii_ : PySem.W.isFn K (.ref fi) = true)
    (lI : K.lookup fi = some ⟨ocI, odI, .func (PySem.W.fnOf "__init__" "Prices.__init__" (defArgs s_Prices_init) (defBody s_Prices_init) (defScope s_Prices_init) .none (.ref DD) dcI pmI anI cdI ctI), slI⟩)
    (cI : PySem.W.codeIn K cdI "Prices.__init__" = true)
    (kI : PySem.W.keepIn K (.ref fi) = true)
    (uI : PySem.W.nsIn K DD "unit" = some (some uU))
    (rI_ : L2.RelV (.int 1) uU)
    (al_NoneType : PySem.W.subIn K (.ref CP) (.type "NoneType") = some false)
    (kf_NoneType : PySem.W.kitOne K (.type "NoneType") (.ref CP) = some false)
    (al_int : PySem.W.subIn K (.ref CP) (.type "int") = some false)
    (kf_int : PySem.W.kitOne K (.type "int") (.ref CP) = some false)
    (al_str : PySem.W.subIn K (.ref CP) (.type "str") = some false)
    (kf_str : PySem.W.kitOne K (.type "str") (.ref CP) = some false)
    (al_list : PySem.W.subIn K (.ref CP) (.type "list") = some false)
    (kf_list : PySem.W.kitOne K (.type "list") (.ref CP) = some false)
    (al_tuple : PySem.W.subIn K (.ref CP) (.type "tuple") = some false)
    (kf_tuple : PySem.W.kitOne K (.type "tuple") (.ref CP) = some false)
    (al_dict : PySem.W.subIn K (.ref CP) (.type "dict") = some false)
    (kf_dict : PySem.W.kitOne K (.type "dict") (.ref CP) = some false)
    (nei_ : PySem.W.findIn K (.ref CP) "__ne__" = some (some (.builtin "object.__ne__")))
    (obi_ : PySem.W.mroIn K CP (.type "object") = some true)
    (cla_ : PySem.W.findIn K (.ref CP) "__class__" = some (some (.builtin "object.__class__")))
    (clb_ : PySem.W.specialIn K (.builtin "object.__class__") "__get__" = some (some (.builtin "getset_descriptor.__get__")))
    (clc_ : PySem.W.takesIn K (.builtin "object.__class__") = some true)
    (kit_ : PySem.W.kitOne K (.ref CP) (.ref CP) = some true)
    (nG : PySem.W.findIn K (.ref CP) "_goods" = some none)
    (nA : PySem.W.findIn K (.ref CP) "_amounts" = some none)
    (nU : PySem.W.findIn K (.ref CP) "_unit" = some none)
    (pa_goods : PySem.W.findIn K (.ref CP) "goods" = some (some (.ref pp_goods)))
    (pe_goods : PySem.W.specialIn K (.ref pp_goods) "__get__" = some (some (.builtin "property.__get__")))
    (pt_goods : PySem.W.takesIn K (.ref pp_goods) = some true)
    (pr_goods : PySem.W.recIn K pp_goods "property" = some (.ref fm_goods :: rest_goods))
    (lMgoods : K.lookup fm_goods = some ⟨ocMgoods, odMgoods, .func (PySem.W.fnOf "goods" "Prices.goods" (defArgs s_Prices_goods) (defBody s_Prices_goods) (defScope s_Prices_goods) .none kVMgoods dcMgoods pmMgoods anMgoods cdMgoods ctMgoods), slMgoods⟩)
    (cMgoods : PySem.W.codeIn K cdMgoods "Prices.goods" = true)
    (kMgoods : PySem.W.keepIn K (.ref fm_goods) = true)
    (pa_unit : PySem.W.findIn K (.ref CP) "unit" = some (some (.ref pp_unit)))
    (pe_unit : PySem.W.specialIn K (.ref pp_unit) "__get__" = some (some (.builtin "property.__get__")))
    (pt_unit : PySem.W.takesIn K (.ref pp_unit) = some true)
    (pr_unit : PySem.W.recIn K pp_unit "property" = some (.ref fm_unit :: rest_unit))
    (lMunit : K.lookup fm_unit = some ⟨ocMunit, odMunit, .func (PySem.W.fnOf "unit" "Prices.unit" (defArgs s_Prices_unit) (defBody s_Prices_unit) (defScope s_Prices_unit) .none kVMunit dcMunit pmMunit anMunit cdMunit ctMunit), slMunit⟩)
    (cMunit : PySem.W.codeIn K cdMunit "Prices.unit" = true)
    (kMunit : PySem.W.keepIn K (.ref fm_unit) = true)
    (ma_amounts : PySem.W.findIn K (.ref CP) "amounts" = some (some (.ref fm_amounts)))
    (mi_amounts : PySem.W.isFn K (.ref fm_amounts) = true)
    (lMamounts : K.lookup fm_amounts = some ⟨ocMamounts, odMamounts, .func (PySem.W.fnOf "amounts" "Prices.amounts" (defArgs s_Prices_amounts) (defBody s_Prices_amounts) (defScope s_Prices_amounts) .none kVMamounts dcMamounts pmMamounts anMamounts cdMamounts ctMamounts), slMamounts⟩)
    (cMamounts : PySem.W.codeIn K cdMamounts "Prices.amounts" = true)
    (kMamounts : PySem.W.keepIn K (.ref fm_amounts) = true)
    (ma_total : PySem.W.findIn K (.ref CP) "total" = some (some (.ref fm_total)))
    (mi_total : PySem.W.isFn K (.ref fm_total) = true)
    (lMtotal : K.lookup fm_total = some ⟨ocMtotal, odMtotal, .func (PySem.W.fnOf "total" "Prices.total" (defArgs s_Prices_total) (defBody s_Prices_total) (defScope s_Prices_total) .none kVMtotal dcMtotal pmMtotal anMtotal cdMtotal ctMtotal), slMtotal⟩)
    (cMtotal : PySem.W.codeIn K cdMtotal "Prices.total" = true)
    (kMtotal : PySem.W.keepIn K (.ref fm_total) = true)
    (ma_getitem : PySem.W.findIn K (.ref CP) "__getitem__" = some (some (.ref fm_getitem)))
    (mi_getitem : PySem.W.isFn K (.ref fm_getitem) = true)
    (mf_getitem : PySem.W.fnIn K fm_getitem = true)
    (lMgetitem : K.lookup fm_getitem = some ⟨ocMgetitem, odMgetitem, .func (PySem.W.fnOf "__getitem__" "Prices.__getitem__" (defArgs s_Prices_getitem) (defBody s_Prices_getitem) (defScope s_Prices_getitem) .none kVMgetitem dcMgetitem pmMgetitem anMgetitem cdMgetitem ctMgetitem), slMgetitem⟩)
    (cMgetitem : PySem.W.codeIn K cdMgetitem "Prices.__getitem__" = true)
    (kMgetitem : PySem.W.keepIn K (.ref fm_getitem) = true)
    (ma_raised : PySem.W.findIn K (.ref CP) "raised" = some (some (.ref fm_raised)))
    (mi_raised : PySem.W.isFn K (.ref fm_raised) = true)
    (lMraised : K.lookup fm_raised = some ⟨ocMraised, odMraised, .func (PySem.W.fnOf "raised" "Prices.raised" (defArgs s_Prices_raised) (defBody s_Prices_raised) (defScope s_Prices_raised) .none kVMraised dcMraised pmMraised anMraised cdMraised ctMraised), slMraised⟩)
    (cMraised : PySem.W.codeIn K cdMraised "Prices.raised" = true)
    (kMraised : PySem.W.keepIn K (.ref fm_raised) = true)
    (ma_in_unit : PySem.W.findIn K (.ref CP) "in_unit" = some (some (.ref fm_in_unit)))
    (mi_in_unit : PySem.W.isFn K (.ref fm_in_unit) = true)
    (lMin_unit : K.lookup fm_in_unit = some ⟨ocMin_unit, odMin_unit, .func (PySem.W.fnOf "in_unit" "Prices.in_unit" (defArgs s_Prices_in_unit) (defBody s_Prices_in_unit) (defScope s_Prices_in_unit) .none kVMin_unit dcMin_unit pmMin_unit anMin_unit cdMin_unit ctMin_unit), slMin_unit⟩)
    (cMin_unit : PySem.W.codeIn K cdMin_unit "Prices.in_unit" = true)
    (kMin_unit : PySem.W.keepIn K (.ref fm_in_unit) = true)
    (ma_covers : PySem.W.findIn K (.ref CP) "covers" = some (some (.ref fm_covers)))
    (mi_covers : PySem.W.isFn K (.ref fm_covers) = true)
    (lMcovers : K.lookup fm_covers = some ⟨ocMcovers, odMcovers, .func (PySem.W.fnOf "covers" "Prices.covers" (defArgs s_Prices_covers) (defBody s_Prices_covers) (defScope s_Prices_covers) .none kVMcovers dcMcovers pmMcovers anMcovers cdMcovers ctMcovers), slMcovers⟩)
    (cMcovers : PySem.W.codeIn K cdMcovers "Prices.covers" = true)
    (kMcovers : PySem.W.keepIn K (.ref fm_covers) = true)
    (ma_eq : PySem.W.findIn K (.ref CP) "__eq__" = some (some (.ref fm_eq)))
    (mi_eq : PySem.W.isFn K (.ref fm_eq) = true)
    (lMeq : K.lookup fm_eq = some ⟨ocMeq, odMeq, .func (PySem.W.fnOf "__eq__" "Prices.__eq__" (defArgs s_Prices_eq) (defBody s_Prices_eq) (defScope s_Prices_eq) .none kVMeq dcMeq pmMeq anMeq cdMeq ctMeq), slMeq⟩)
    (cMeq : PySem.W.codeIn K cdMeq "Prices.__eq__" = true)
    (kMeq : PySem.W.keepIn K (.ref fm_eq) = true)
    (aW : PySem.W.nsIn K mainGlobals "is_whole" = some (some (.ref fw)))
    (lW : K.lookup fw = some ⟨ocW, odW, .func (PySem.W.fnOf "is_whole" "is_whole" (defArgs s_is_whole) (defBody s_is_whole) (defScope s_is_whole) (.ref TT) kVW dcW pmW anW cdW ctW), slW⟩)
    (cW : PySem.W.codeIn K cdW "is_whole" = true)
    (kW : PySem.W.keepIn K (.ref fw) = true)
    (tW : K.lookup TT = some ⟨ocT, odT, .seq #[Value.none] nT, slT⟩)
    (a0 : PySem.W.nsIn K mainGlobals "valid_name" = some (some (.ref f0)))
    (l0 : K.lookup f0 = some ⟨oc0, od0, .func (PySem.W.fnOf "valid_name" "valid_name" (defArgs s_valid_name) (defBody s_valid_name) (defScope s_valid_name) .none kV0 dc0 pm0 an0 cd0 ct0), sl0⟩)
    (c0 : PySem.W.codeIn K cd0 "valid_name" = true)
    (k0 : PySem.W.keepIn K (.ref f0) = true)
    (a1 : PySem.W.nsIn K mainGlobals "goods_of" = some (some (.ref f1)))
    (l1 : K.lookup f1 = some ⟨oc1, od1, .func (PySem.W.fnOf "goods_of" "goods_of" (defArgs s_goods_of) (defBody s_goods_of) (defScope s_goods_of) .none kV1 dc1 pm1 an1 cd1 ct1), sl1⟩)
    (c1 : PySem.W.codeIn K cd1 "goods_of" = true)
    (k1 : PySem.W.keepIn K (.ref f1) = true)
    (a2 : PySem.W.nsIn K mainGlobals "is_bundle" = some (some (.ref f2)))
    (l2 : K.lookup f2 = some ⟨oc2, od2, .func (PySem.W.fnOf "is_bundle" "is_bundle" (defArgs s_is_bundle) (defBody s_is_bundle) (defScope s_is_bundle) .none kV2 dc2 pm2 an2 cd2 ct2), sl2⟩)
    (c2 : PySem.W.codeIn K cd2 "is_bundle" = true)
    (k2 : PySem.W.keepIn K (.ref f2) = true)
    (a3 : PySem.W.nsIn K mainGlobals "_law_start" = some (some (.ref f3)))
    (l3 : K.lookup f3 = some ⟨oc3, od3, .func (PySem.W.fnOf "_law_start" "_law_start" (defArgs s_law_start) (defBody s_law_start) (defScope s_law_start) .none kV3 dc3 pm3 an3 cd3 ct3), sl3⟩)
    (c3 : PySem.W.codeIn K cd3 "_law_start" = true)
    (k3 : PySem.W.keepIn K (.ref f3) = true)
    (a4 : PySem.W.nsIn K mainGlobals "_law_draw" = some (some (.ref f4)))
    (l4 : K.lookup f4 = some ⟨oc4, od4, .func (PySem.W.fnOf "_law_draw" "_law_draw" (defArgs s_law_draw) (defBody s_law_draw) (defScope s_law_draw) .none kV4 dc4 pm4 an4 cd4 ct4), sl4⟩)
    (c4 : PySem.W.codeIn K cd4 "_law_draw" = true)
    (k4 : PySem.W.keepIn K (.ref f4) = true)
    (a5 : PySem.W.nsIn K mainGlobals "_law_names" = some (some (.ref f5)))
    (l5 : K.lookup f5 = some ⟨oc5, od5, .func (PySem.W.fnOf "_law_names" "_law_names" (defArgs s_law_names) (defBody s_law_names) (defScope s_law_names) .none kV5 dc5 pm5 an5 cd5 ct5), sl5⟩)
    (c5 : PySem.W.codeIn K cd5 "_law_names" = true)
    (k5 : PySem.W.keepIn K (.ref f5) = true)
    (a6 : PySem.W.nsIn K mainGlobals "_law_order" = some (some (.ref f6)))
    (l6 : K.lookup f6 = some ⟨oc6, od6, .func (PySem.W.fnOf "_law_order" "_law_order" (defArgs s_law_order) (defBody s_law_order) (defScope s_law_order) .none kV6 dc6 pm6 an6 cd6 ct6), sl6⟩)
    (c6 : PySem.W.codeIn K cd6 "_law_order" = true)
    (k6 : PySem.W.keepIn K (.ref f6) = true)
    (a7 : PySem.W.nsIn K mainGlobals "_law_costs" = some (some (.ref f7)))
    (l7 : K.lookup f7 = some ⟨oc7, od7, .func (PySem.W.fnOf "_law_costs" "_law_costs" (defArgs s_law_costs) (defBody s_law_costs) (defScope s_law_costs) .none kV7 dc7 pm7 an7 cd7 ct7), sl7⟩)
    (c7 : PySem.W.codeIn K cd7 "_law_costs" = true)
    (k7 : PySem.W.keepIn K (.ref f7) = true)
    (a8 : PySem.W.nsIn K mainGlobals "_law_covers" = some (some (.ref f8)))
    (l8 : K.lookup f8 = some ⟨oc8, od8, .func (PySem.W.fnOf "_law_covers" "_law_covers" (defArgs s_law_covers) (defBody s_law_covers) (defScope s_law_covers) .none kV8 dc8 pm8 an8 cd8 ct8), sl8⟩)
    (c8 : PySem.W.codeIn K cd8 "_law_covers" = true)
    (k8 : PySem.W.keepIn K (.ref f8) = true)
    (a9 : PySem.W.nsIn K mainGlobals "_law_told" = some (some (.ref f9)))
    (l9 : K.lookup f9 = some ⟨oc9, od9, .func (PySem.W.fnOf "_law_told" "_law_told" (defArgs s_law_told) (defBody s_law_told) (defScope s_law_told) .none kV9 dc9 pm9 an9 cd9 ct9), sl9⟩)
    (c9 : PySem.W.codeIn K cd9 "_law_told" = true)
    (k9 : PySem.W.keepIn K (.ref f9) = true)
    (a10 : PySem.W.nsIn K mainGlobals "_law_raised" = some (some (.ref f10)))
    (l10 : K.lookup f10 = some ⟨oc10, od10, .func (PySem.W.fnOf "_law_raised" "_law_raised" (defArgs s_law_raised) (defBody s_law_raised) (defScope s_law_raised) .none kV10 dc10 pm10 an10 cd10 ct10), sl10⟩)
    (c10 : PySem.W.codeIn K cd10 "_law_raised" = true)
    (k10 : PySem.W.keepIn K (.ref f10) = true)
    (a11 : PySem.W.nsIn K mainGlobals "_law_raised_due" = some (some (.ref f11)))
    (l11 : K.lookup f11 = some ⟨oc11, od11, .func (PySem.W.fnOf "_law_raised_due" "_law_raised_due" (defArgs s_law_raised_due) (defBody s_law_raised_due) (defScope s_law_raised_due) .none kV11 dc11 pm11 an11 cd11 ct11), sl11⟩)
    (c11 : PySem.W.codeIn K cd11 "_law_raised_due" = true)
    (k11 : PySem.W.keepIn K (.ref f11) = true)
    (a12 : PySem.W.nsIn K mainGlobals "_law_scaled" = some (some (.ref f12)))
    (l12 : K.lookup f12 = some ⟨oc12, od12, .func (PySem.W.fnOf "_law_scaled" "_law_scaled" (defArgs s_law_scaled) (defBody s_law_scaled) (defScope s_law_scaled) .none kV12 dc12 pm12 an12 cd12 ct12), sl12⟩)
    (c12 : PySem.W.codeIn K cd12 "_law_scaled" = true)
    (k12 : PySem.W.keepIn K (.ref f12) = true)
    (a13 : PySem.W.nsIn K mainGlobals "_law_scaled_due" = some (some (.ref f13)))
    (l13 : K.lookup f13 = some ⟨oc13, od13, .func (PySem.W.fnOf "_law_scaled_due" "_law_scaled_due" (defArgs s_law_scaled_due) (defBody s_law_scaled_due) (defScope s_law_scaled_due) .none kV13 dc13 pm13 an13 cd13 ct13), sl13⟩)
    (c13 : PySem.W.codeIn K cd13 "_law_scaled_due" = true)
    (k13 : PySem.W.keepIn K (.ref f13) = true)
    (a14 : PySem.W.nsIn K mainGlobals "_law_other" = some (some (.ref f14)))
    (l14 : K.lookup f14 = some ⟨oc14, od14, .func (PySem.W.fnOf "_law_other" "_law_other" (defArgs s_law_other) (defBody s_law_other) (defScope s_law_other) .none kV14 dc14 pm14 an14 cd14 ct14), sl14⟩)
    (c14 : PySem.W.codeIn K cd14 "_law_other" = true)
    (k14 : PySem.W.keepIn K (.ref f14) = true)
    (a15 : PySem.W.nsIn K mainGlobals "_law_compared" = some (some (.ref f15)))
    (l15 : K.lookup f15 = some ⟨oc15, od15, .func (PySem.W.fnOf "_law_compared" "_law_compared" (defArgs s_law_compared) (defBody s_law_compared) (defScope s_law_compared) .none kV15 dc15 pm15 an15 cd15 ct15), sl15⟩)
    (c15 : PySem.W.codeIn K cd15 "_law_compared" = true)
    (k15 : PySem.W.keepIn K (.ref f15) = true)
    (a16 : PySem.W.nsIn K mainGlobals "law" = some (some (.ref f16)))
    (l16 : K.lookup f16 = some ⟨oc16, od16, .func (PySem.W.fnOf "law" "law" (defArgs s_law) (defBody s_law) (defScope s_law) .none kV16 dc16 pm16 an16 cd16 ct16), sl16⟩)
    (c16 : PySem.W.codeIn K cd16 "law" = true)
    (k16 : PySem.W.keepIn K (.ref f16) = true)
    (z_abs : PySem.W.nsIn K mainGlobals "abs" = some none)
    (z_list : PySem.W.nsIn K mainGlobals "list" = some none)
    (z_int : PySem.W.nsIn K mainGlobals "int" = some none)
    (z_len : PySem.W.nsIn K mainGlobals "len" = some none)
    (z_all : PySem.W.nsIn K mainGlobals "all" = some none)
    (z_range : PySem.W.nsIn K mainGlobals "range" = some none)
    (z_isinstance : PySem.W.nsIn K mainGlobals "isinstance" = some none)
    (z_str : PySem.W.nsIn K mainGlobals "str" = some none)
    (z_enumerate : PySem.W.nsIn K mainGlobals "enumerate" = some none)
    (z_tuple : PySem.W.nsIn K mainGlobals "tuple" = some none)
    (z_sorted : PySem.W.nsIn K mainGlobals "sorted" = some none)
    (z_bool : PySem.W.nsIn K mainGlobals "bool" = some none)
    (z_dict : PySem.W.nsIn K mainGlobals "dict" = some none)
    (z_sum : PySem.W.nsIn K mainGlobals "sum" = some none)
    (z_max : PySem.W.nsIn K mainGlobals "max" = some none)
    (q_LETTERS : PySem.W.nsIn K mainGlobals "LETTERS" = some (some u_LETTERS))
    (r_LETTERS : L2.RelV (.str LET) u_LETTERS)
    (q_DIGITS : PySem.W.nsIn K mainGlobals "DIGITS" = some (some u_DIGITS))
    (r_DIGITS : L2.RelV (.str DIG) u_DIGITS)
    (q_MOST_SIGNS : PySem.W.nsIn K mainGlobals "MOST_SIGNS" = some (some u_MOST_SIGNS))
    (r_MOST_SIGNS : L2.RelV (.int 6) u_MOST_SIGNS)
    (q_MOST_GOODS : PySem.W.nsIn K mainGlobals "MOST_GOODS" = some (some u_MOST_GOODS))
    (r_MOST_GOODS : L2.RelV (.int 5) u_MOST_GOODS) :
    ∃ fd : FuncData, (∀ (s : Shared) (v : Value), BindsTo s fd ⟨[v], []⟩ [("_law_script", v)]) ∧ ∀ base : Heap, K.In base → base.Ns mainGlobals mg → FnOk l.prog w K mg base CX0 9 fa fd ["_law_script"] (sp_law K) := by
  have e := hfa.symm.trans (PySem.W.mg_of X G a16)
  cases e
  have F_valid_name := fun_mk (st := s_valid_name) l0 c0 k0
  have g_valid_name := PySem.W.mg_of X G a0
  have b_valid_name := F_valid_name.binds (ps := ["text"]) fun _ _ _ _ _ _ us hl => match us, hl with | [_], _ => rfl
  have F_goods_of := fun_mk (st := s_goods_of) l1 c1 k1
  have g_goods_of := PySem.W.mg_of X G a1
  have b_goods_of := F_goods_of.binds (ps := ["names"]) fun _ _ _ _ _ _ us hl => match us, hl with | [_], _ => rfl
  have F_is_bundle := fun_mk (st := s_is_bundle) l2 c2 k2
  have g_is_bundle := PySem.W.mg_of X G a2
  have b_is_bundle := F_is_bundle.binds (ps := ["goods", "value"]) fun _ _ _ _ _ _ us hl => match us, hl with | [_, _], _ => rfl
  have F_law_start := fun_mk (st := s_law_start) l3 c3 k3
  have g_law_start := PySem.W.mg_of X G a3
  have b_law_start := F_law_start.binds (ps := ["_law_script"]) fun _ _ _ _ _ _ us hl => match us, hl with | [_], _ => rfl
  have F_law_draw := fun_mk (st := s_law_draw) l4 c4 k4
  have g_law_draw := PySem.W.mg_of X G a4
  have b_law_draw := F_law_draw.binds (ps := ["_law_state", "_law_size"]) fun _ _ _ _ _ _ us hl => match us, hl with | [_, _], _ => rfl
  have F_law_names := fun_mk (st := s_law_names) l5 c5 k5
  have g_law_names := PySem.W.mg_of X G a5
  have b_law_names := F_law_names.binds (ps := ["_law_state", "_law_count"]) fun _ _ _ _ _ _ us hl => match us, hl with | [_, _], _ => rfl
  have F_law_order := fun_mk (st := s_law_order) l6 c6 k6
  have g_law_order := PySem.W.mg_of X G a6
  have b_law_order := F_law_order.binds (ps := ["_law_state", "_law_items"]) fun _ _ _ _ _ _ us hl => match us, hl with | [_, _], _ => rfl
  have F_law_costs := fun_mk (st := s_law_costs) l7 c7 k7
  have g_law_costs := PySem.W.mg_of X G a7
  have b_law_costs := F_law_costs.binds (ps := ["_law_state", "_law_stock", "_law_scale"]) fun _ _ _ _ _ _ us hl => match us, hl with | [_, _, _], _ => rfl
  have F_law_covers := fun_mk (st := s_law_covers) l8 c8 k8
  have g_law_covers := PySem.W.mg_of X G a8
  have b_law_covers := F_law_covers.binds (ps := ["_law_one", "_law_two"]) fun _ _ _ _ _ _ us hl => match us, hl with | [_, _], _ => rfl
  have F_law_told := fun_mk (st := s_law_told) l9 c9 k9
  have g_law_told := PySem.W.mg_of X G a9
  have b_law_told := F_law_told.binds (ps := ["_law_a", "_law_b"]) fun _ _ _ _ _ _ us hl => match us, hl with | [_, _], _ => rfl
  have F_law_raised := fun_mk (st := s_law_raised) l10 c10 k10
  have g_law_raised := PySem.W.mg_of X G a10
  have b_law_raised := F_law_raised.binds (ps := ["_law_a", "_law_label", "_law_more2"]) fun _ _ _ _ _ _ us hl => match us, hl with | [_, _, _], _ => rfl
  have F_law_raised_due := fun_mk (st := s_law_raised_due) l11 c11 k11
  have g_law_raised_due := PySem.W.mg_of X G a11
  have b_law_raised_due := F_law_raised_due.binds (ps := ["_law_one", "_law_label", "_law_more2"]) fun _ _ _ _ _ _ us hl => match us, hl with | [_, _, _], _ => rfl
  have F_law_scaled := fun_mk (st := s_law_scaled) l12 c12 k12
  have g_law_scaled := PySem.W.mg_of X G a12
  have b_law_scaled := F_law_scaled.binds (ps := ["_law_a", "_law_whole"]) fun _ _ _ _ _ _ us hl => match us, hl with | [_, _], _ => rfl
  have F_law_scaled_due := fun_mk (st := s_law_scaled_due) l13 c13 k13
  have g_law_scaled_due := PySem.W.mg_of X G a13
  have b_law_scaled_due := F_law_scaled_due.binds (ps := ["_law_one", "_law_whole"]) fun _ _ _ _ _ _ us hl => match us, hl with | [_, _], _ => rfl
  have F_law_other := fun_mk (st := s_law_other) l14 c14 k14
  have g_law_other := PySem.W.mg_of X G a14
  have b_law_other := F_law_other.binds (ps := ["_law_state", "_law_one"]) fun _ _ _ _ _ _ us hl => match us, hl with | [_, _], _ => rfl
  have F_law_compared := fun_mk (st := s_law_compared) l15 c15 k15
  have g_law_compared := PySem.W.mg_of X G a15
  have b_law_compared := F_law_compared.binds (ps := ["_law_one", "_law_two", "_law_a", "_law_b"]) fun _ _ _ _ _ _ us hl => match us, hl with | [_, _, _, _], _ => rfl
  have F_law := fun_mk (st := s_law) l16 c16 k16
  have FM_goods := fun_mk (st := s_Prices_goods) lMgoods cMgoods kMgoods
  have bM_goods := FM_goods.binds (ps := ["self"]) fun _ _ _ _ _ _ us hl => match us, hl with | [_], _ => rfl
  have FM_unit := fun_mk (st := s_Prices_unit) lMunit cMunit kMunit
  have bM_unit := FM_unit.binds (ps := ["self"]) fun _ _ _ _ _ _ us hl => match us, hl with | [_], _ => rfl
  have FM_amounts := fun_mk (st := s_Prices_amounts) lMamounts cMamounts kMamounts
  have bM_amounts := FM_amounts.binds (ps := ["self"]) fun _ _ _ _ _ _ us hl => match us, hl with | [_], _ => rfl
  have FM_total := fun_mk (st := s_Prices_total) lMtotal cMtotal kMtotal
  have bM_total := FM_total.binds (ps := ["self", "bundle"]) fun _ _ _ _ _ _ us hl => match us, hl with | [_, _], _ => rfl
  have FM_getitem := fun_mk (st := s_Prices_getitem) lMgetitem cMgetitem kMgetitem
  have bM_getitem := FM_getitem.binds (ps := ["self", "good"]) fun _ _ _ _ _ _ us hl => match us, hl with | [_, _], _ => rfl
  have FM_raised := fun_mk (st := s_Prices_raised) lMraised cMraised kMraised
  have bM_raised := FM_raised.binds (ps := ["self", "good", "by"]) fun _ _ _ _ _ _ us hl => match us, hl with | [_, _, _], _ => rfl
  have FM_in_unit := fun_mk (st := s_Prices_in_unit) lMin_unit cMin_unit kMin_unit
  have bM_in_unit := FM_in_unit.binds (ps := ["self", "unit"]) fun _ _ _ _ _ _ us hl => match us, hl with | [_, _], _ => rfl
  have FM_covers := fun_mk (st := s_Prices_covers) lMcovers cMcovers kMcovers
  have bM_covers := FM_covers.binds (ps := ["self", "other"]) fun _ _ _ _ _ _ us hl => match us, hl with | [_, _], _ => rfl
  have FM_eq := fun_mk (st := s_Prices_eq) lMeq cMeq kMeq
  have bM_eq := FM_eq.binds (ps := ["self", "other"]) fun _ _ _ _ _ _ us hl => match us, hl with | [_, _], _ => rfl
  have m_abs := PySem.W.mg_none_of X G z_abs
  have m_list := PySem.W.mg_none_of X G z_list
  have m_int := PySem.W.mg_none_of X G z_int
  have m_len := PySem.W.mg_none_of X G z_len
  have m_all := PySem.W.mg_none_of X G z_all
  have m_range := PySem.W.mg_none_of X G z_range
  have m_isinstance := PySem.W.mg_none_of X G z_isinstance
  have m_str := PySem.W.mg_none_of X G z_str
  have m_enumerate := PySem.W.mg_none_of X G z_enumerate
  have m_tuple := PySem.W.mg_none_of X G z_tuple
  have m_sorted := PySem.W.mg_none_of X G z_sorted
  have m_bool := PySem.W.mg_none_of X G z_bool
  have m_dict := PySem.W.mg_none_of X G z_dict
  have m_sum := PySem.W.mg_none_of X G z_sum
  have m_max := PySem.W.mg_none_of X G z_max
  have m_LETTERS : ∃ u, mg "LETTERS" = some u ∧ L2.RelV (.str LET) u := ⟨_, PySem.W.mg_of X G q_LETTERS, r_LETTERS⟩
  have m_DIGITS : ∃ u, mg "DIGITS" = some u ∧ L2.RelV (.str DIG) u := ⟨_, PySem.W.mg_of X G q_DIGITS, r_DIGITS⟩
  have m_MOST_SIGNS : ∃ u, mg "MOST_SIGNS" = some u ∧ L2.RelV (.int 6) u := ⟨_, PySem.W.mg_of X G q_MOST_SIGNS, r_MOST_SIGNS⟩
  have m_MOST_GOODS : ∃ u, mg "MOST_GOODS" = some u ∧ L2.RelV (.int 5) u := ⟨_, PySem.W.mg_of X G q_MOST_GOODS, r_MOST_GOODS⟩
  have g_Prices := PySem.W.mg_of X G aCP
  have g_is_whole := PySem.W.mg_of X G aW
  have FW := fund_dfl (st := s_is_whole) lW tW cW kW
  obtain ⟨dsW, dW, bW⟩ := binds_whole FW
  have FI := fund_kwd (st := s_Prices_init) (kn := "unit") (v := .int 1) lI uI rI_ cI kI
  obtain ⟨dsI, dI0, bI0⟩ := binds_init0 FI
  have cls : Cls K CP := ⟨pg_, hd_, po_, sa_⟩
  have M : Mk K CP fi := ⟨mk_, ai_, ii_, kc_⟩
  have pG : PropOf K CP "goods" pp_goods fm_goods := ⟨pa_goods, pe_goods, pt_goods, rest_goods, pr_goods⟩
  have pU : PropOf K CP "unit" pp_unit fm_unit := ⟨pa_unit, pe_unit, pt_unit, rest_unit, pr_unit⟩
  have meA : Meth K CP "amounts" fm_amounts := ⟨ma_amounts, mi_amounts, kMamounts⟩
  have meT : Meth K CP "total" fm_total := ⟨ma_total, mi_total, kMtotal⟩
  have ixP : OwnIx K CP fm_getitem := ⟨ma_getitem, mf_getitem, mi_getitem⟩
  have meR : Meth K CP "raised" fm_raised := ⟨ma_raised, mi_raised, kMraised⟩
  have meC : Meth K CP "covers" fm_covers := ⟨ma_covers, mi_covers, kMcovers⟩
  have meS : Meth K CP "in_unit" fm_in_unit := ⟨ma_in_unit, mi_in_unit, kMin_unit⟩
  have OE : OwnEq K CP fm_eq := ⟨ma_eq, mi_eq⟩
  have ON : OwnNe K CP := ⟨nei_, obi_⟩
  have insC : InsC K CP := ⟨cla_, clb_, clc_, obi_, kit_⟩
  have al : Alone K CP := fun T hT => by
    simp only [List.mem_cons, List.not_mem_nil, or_false] at hT
    rcases hT with rfl | rfl | rfl | rfl | rfl | rfl
    · exact al_NoneType
    · exact al_int
    · exact al_str
    · exact al_list
    · exact al_tuple
    · exact al_dict
  have kf : ∀ T ∈ ["NoneType", "int", "str", "list", "tuple", "dict"], PySem.W.kitOne K (.type T) (.ref CP) = some false := fun T hT => by
    simp only [List.mem_cons, List.not_mem_nil, or_false] at hT
    rcases hT with rfl | rfl | rfl | rfl | rfl | rfl
    · exact kf_NoneType
    · exact kf_int
    · exact kf_str
    · exact kf_list
    · exact kf_tuple
    · exact kf_dict
  have kb_raised : KBinds K (PySem.W.fnOf "raised" "Prices.raised" (defArgs s_Prices_raised) (defBody s_Prices_raised) (defScope s_Prices_raised) .none kVMraised dcMraised pmMraised anMraised cdMraised ctMraised) ["self", "good", "by"] ["by", "good"] kwG2 kwG2 := ⟨fun s us ws _ hl => match us, ws, hl with | [_], [_, _], _ => .of_eq rfl, kwG2_rel⟩
  have kb_covers : KBinds K (PySem.W.fnOf "covers" "Prices.covers" (defArgs s_Prices_covers) (defBody s_Prices_covers) (defScope s_Prices_covers) .none kVMcovers dcMcovers pmMcovers anMcovers cdMcovers ctMcovers) ["self", "other"] ["other"] kwG kwG := ⟨fun s us ws _ hl => match us, ws, hl with | [_], [_], _ => .of_eq rfl, kwG_rel⟩
  have kb_in_unit : KBinds K (PySem.W.fnOf "in_unit" "Prices.in_unit" (defArgs s_Prices_in_unit) (defBody s_Prices_in_unit) (defScope s_Prices_in_unit) .none kVMin_unit dcMin_unit pmMin_unit anMin_unit cdMin_unit ctMin_unit) ["self", "unit"] ["unit"] kwG kwG := ⟨fun s us ws _ hl => match us, ws, hl with | [_], [_], _ => .of_eq rfl, kwG_rel⟩
  refine ⟨PySem.W.fnOf "law" "law" (defArgs s_law) (defBody s_law) (defScope s_law) .none kV16 dc16 pm16 an16 cd16 ct16, fun s v => .of_eq rfl, fun base _ _ => ?_⟩
  have GV : FnOk l.prog w K mg base CX0 2 _ _ ["text"] sp_vn := ok_vn F_valid_name m_len m_all m_LETTERS m_DIGITS m_MOST_SIGNS
  have GD : FnOk l.prog w K mg base CX0 1 _ _ ["_law_state", "_law_size"] sp_draw := ok_draw F_law_draw m_int m_len
  have GDW : FnOk l.prog w K mg base CX0 1 _ _ ["_law_state", "_law_size"] sp_drawW := ok_drawW F_law_draw m_int m_len
  have GG : FnOk l.prog w K mg base (L2.CX l.prog w) 3 _ _ ["names"] (sp_goods K CBadCount CBadName CDuplicateName) := ok_goods F_goods_of (E_BadCount base) (E_BadName base) (E_DuplicateName base) F_valid_name b_valid_name g_valid_name GV m_len m_enumerate m_tuple m_sorted m_MOST_GOODS
  have GW : FnOk l.prog w K mg base CX0 1 _ _ ["value", "least", "most"] sp_whole := ok_whole FW m_isinstance m_int m_bool
  have GI : FnOk l.prog w K mg base (L2.CX l.prog w) 4 _ _ ["self", "amounts", "unit"] (sp_init K ⟨CP, CBadCount, CBadName, CDuplicateName, CBadPrice, CBadUnit⟩) := ok_init FI cls nG nA nU (E_BadPrice base) (E_BadUnit base) F_goods_of b_goods_of g_goods_of GG FW bW dW g_is_whole GW m_sorted
  have GPG : FnOk l.prog w K mg base CX0 1 _ _ ["self"] (getSp CP "_goods") := ok_goodsP FM_goods cls nG
  have GPU : FnOk l.prog w K mg base CX0 1 _ _ ["self"] (getSp CP "_unit") := ok_unitP FM_unit cls nU
  have GPA : FnOk l.prog w K mg base CX0 1 _ _ ["self"] (sp_amounts CP) := ok_amounts FM_amounts cls nA m_dict
  have GPI : FnOk l.prog w K mg base (L2.CX l.prog w) 3 _ _ ["self", "good"] (sp_geti CP CUnknownName) := ok_geti FM_getitem cls nG nA (E_UnknownName base)
  have GIB : FnOk l.prog w K mg base CX0 1 _ _ ["goods", "value"] (sp_isb K) := ok_isb F_is_bundle m_isinstance m_tuple
  have GPT : FnOk l.prog w K mg base (L2.CX l.prog w) 3 _ _ ["self", "bundle"] (sp_total K CP CBadBundle) := ok_total FM_total cls nG nA (E_BadBundle base) F_is_bundle b_is_bundle g_is_bundle GIB m_sum
  have GE : FnOk l.prog w K mg base CX0 1 _ _ ["self", "other"] (sp_peq K CP) := ok_peq FM_eq cls insC nG nA nU g_Prices m_isinstance
  have GCv : FnOk l.prog w K mg base (L2.CX l.prog w) 5 _ _ ["self", "other"] (sp_covers CP CUnlikeGoods) := ok_covers FM_covers cls nG nA nU (E_UnlikeGoods base) pG GPG bM_goods pU GPU bM_unit ixP GPI bM_getitem m_all
  have GSc : FnOk l.prog w K mg base (L2.CX l.prog w) 6 _ _ ["self", "unit"] (sp_scaled K CP CBadUnit) := ok_scaled FM_in_unit cls nG nA nU (E_BadUnit base) FW bW dW g_is_whole GW M g_Prices GI (kb_unit FI)
  have GRa : FnOk l.prog w K mg base (L2.CX l.prog w) 6 _ _ ["self", "good", "by"] (sp_raised CP CUnknownName CBadPrice) := ok_raised FM_raised cls nA nU (E_BadPrice base) FW bW dW g_is_whole GW ixP GPI bM_getitem M g_Prices GI (kb_unit FI)
  have GOr : FnOk l.prog w K mg base CX0 2 _ _ ["_law_state", "_law_items"] (sp_order K) := ok_order F_law_order F_law_draw b_law_draw g_law_draw GD m_range m_len m_list
  have GC : FnOk l.prog w K mg base CX0 3 _ _ ["_law_state", "_law_stock", "_law_scale"] (sp_costsR K) := ok_costsR F_law_costs F_law_draw b_law_draw g_law_draw GDW F_law_order b_law_order g_law_order GOr m_list
  have GN : FnOk l.prog w K mg base CX0 2 _ _ ["_law_state", "_law_count"] sp_names := ok_names F_law_names F_law_draw b_law_draw g_law_draw GD m_range m_str m_int
  have GLC : FnOk l.prog w K mg base CX0 1 _ _ ["_law_one", "_law_two"] sp_lcov := ok_lcov F_law_covers
  have GT : FnOk l.prog w K mg base CX0 7 _ _ ["_law_a", "_law_b"] (sp_told CP) := ok_told F_law_told (E_UnlikeGoods base).X (E_UnlikeGoods base).no (E_UnlikeGoods base).g w_gg cls meC GCv bM_covers m_int m_isinstance m_bool
  have GLR : FnOk l.prog w K mg base CX0 8 _ _ ["_law_a", "_law_label", "_law_more2"] (sp_lraised CP) := ok_lraised F_law_raised (E_UnknownName base).X (E_BadPrice base).X (E_UnknownName base).no (E_BadPrice base).no (E_UnknownName base).g (E_BadPrice base).g w_xn w_an w_aa cls meR GRa bM_raised pG GPG bM_goods pU GPU bM_unit meA GPA bM_amounts meT GPT bM_total ixP GPI bM_getitem m_isinstance m_bool
  have GLS : FnOk l.prog w K mg base CX0 8 _ _ ["_law_a", "_law_whole"] (sp_lscaled CP) := ok_lscaled F_law_scaled (E_BadUnit base).X (E_BadUnit base).no (E_BadUnit base).g w_uu cls meS GSc bM_in_unit pG GPG bM_goods pU GPU bM_unit meA GPA bM_amounts meT GPT bM_total m_isinstance m_bool
  have GRd : FnOk l.prog w K mg base CX0 1 _ _ ["_law_one", "_law_label", "_law_more2"] sp_rdue := ok_rdue F_law_raised_due m_isinstance m_int m_bool m_dict m_sum m_tuple m_sorted
  have GSd : FnOk l.prog w K mg base CX0 1 _ _ ["_law_one", "_law_whole"] sp_sdue := ok_sdue F_law_scaled_due m_isinstance m_int m_bool m_sum m_tuple m_sorted
  have GOt : FnOk l.prog w K mg base CX0 3 _ _ ["_law_state", "_law_one"] sp_other := ok_other F_law_other F_law_draw b_law_draw g_law_draw GD F_law_order b_law_order g_law_order GOr m_sorted m_len m_max
  have GCm : FnOk l.prog w K mg base CX0 8 _ _ ["_law_one", "_law_two", "_law_a", "_law_b"] (sp_compared CP) := ok_compared F_law_compared OE ON al GE bM_eq kf F_law_covers b_law_covers g_law_covers GLC F_law_told b_law_told g_law_told GT m_sorted m_tuple
  exact ok_law F_law F_law_start b_law_start g_law_start (ok_start F_law_start m_abs m_list) F_law_draw b_law_draw g_law_draw GD F_law_names b_law_names g_law_names GN F_law_costs b_law_costs g_law_costs GC F_law_other b_law_other g_law_other GOt F_law_compared b_law_compared g_law_compared GCm F_law_raised b_law_raised g_law_raised GLR F_law_raised_due b_law_raised_due g_law_raised_due GRd F_law_scaled b_law_scaled g_law_scaled GLS F_law_scaled_due b_law_scaled_due g_law_scaled_due GSd M cls g_Prices GI (kb_unit FI) OE ON GE bM_eq meR GRa bM_raised kb_raised meC GCv bM_covers kb_covers meS GSc bM_in_unit kb_in_unit pU GPU bM_unit meA GPA bM_amounts m_len m_range
end Lw
open PySem PySem.W PyProof.Rows
set_option maxHeartbeats 0 in
theorem PySem.Challenge.cw_bundlekinds_k31_prices_compared_holds : PySem.Challenge.rw_bundlekinds_k31_prices_compared.Holds := by
  w_on; o_law; k_head; (case hw => w_witness2)
  k_fill
  refine L2.walk_of (l := PySem.Challenge.rw_bundlekinds_k31_prices_compared) (n := 63) (k := 9) (x := "_law_script") (CX := fun _ => L2.CX0) (sp := fun w => Lw.sp_law _) rfl (by decide) rfl ⟨rfl, by decide, by decide⟩ (fun w h Y => PySem.W.kIn_of Y) ?F (fun _ _ a ns hl _ hS => ⟨a, ns, rfl, hS, hl, fun _ => rfl⟩) (fun _ _ _ _ _ h => h)
  case F =>
    intro w mg fa h KX G hmg
    have P_BadName := Lw.erc_mk (P := PySem.Challenge.rw_bundlekinds_k31_prices_compared.prog) (w := w) KX G (c := "BadName") (f := "name") (qn := "BadName.__init__") Lw.s_iBadName Lw.ok_iBadName (fun F => F.binds fun _ _ _ _ _ _ us hl => match us, hl with | [_, _], _ => rfl) (by k_is) (by k_is) (by k_is) (by k_is) (by k_is) (by k_is) (by k_is) (by k_is) (by k_is) (by k_is) (by k_is) (by k_is) (by k_is) (by k_is) (by k_is) (by k_is) (by k_is) (by k_is) (by k_is)
    have P_DuplicateName := Lw.erc_mk (P := PySem.Challenge.rw_bundlekinds_k31_prices_compared.prog) (w := w) KX G (c := "DuplicateName") (f := "name") (qn := "DuplicateName.__init__") Lw.s_iDuplicateName Lw.ok_iDuplicateName (fun F => F.binds fun _ _ _ _ _ _ us hl => match us, hl with | [_, _], _ => rfl) (by k_is) (by k_is) (by k_is) (by k_is) (by k_is) (by k_is) (by k_is) (by k_is) (by k_is) (by k_is) (by k_is) (by k_is) (by k_is) (by k_is) (by k_is) (by k_is) (by k_is) (by k_is) (by k_is)
    have P_UnknownName := Lw.erc_mk (P := PySem.Challenge.rw_bundlekinds_k31_prices_compared.prog) (w := w) KX G (c := "UnknownName") (f := "name") (qn := "UnknownName.__init__") Lw.s_iUnknownName Lw.ok_iUnknownName (fun F => F.binds fun _ _ _ _ _ _ us hl => match us, hl with | [_, _], _ => rfl) (by k_is) (by k_is) (by k_is) (by k_is) (by k_is) (by k_is) (by k_is) (by k_is) (by k_is) (by k_is) (by k_is) (by k_is) (by k_is) (by k_is) (by k_is) (by k_is) (by k_is) (by k_is) (by k_is)
    have P_BadCount := Lw.erc_mk (P := PySem.Challenge.rw_bundlekinds_k31_prices_compared.prog) (w := w) KX G (c := "BadCount") (f := "count") (qn := "BadCount.__init__") Lw.s_iBadCount Lw.ok_iBadCount (fun F => F.binds fun _ _ _ _ _ _ us hl => match us, hl with | [_, _], _ => rfl) (by k_is) (by k_is) (by k_is) (by k_is) (by k_is) (by k_is) (by k_is) (by k_is) (by k_is) (by k_is) (by k_is) (by k_is) (by k_is) (by k_is) (by k_is) (by k_is) (by k_is) (by k_is) (by k_is)
    have P_BadBundle := Lw.erc_mk (P := PySem.Challenge.rw_bundlekinds_k31_prices_compared.prog) (w := w) KX G (c := "BadBundle") (f := "value") (qn := "BadBundle.__init__") Lw.s_iBadBundle Lw.ok_iBadBundle (fun F => F.binds fun _ _ _ _ _ _ us hl => match us, hl with | [_, _], _ => rfl) (by k_is) (by k_is) (by k_is) (by k_is) (by k_is) (by k_is) (by k_is) (by k_is) (by k_is) (by k_is) (by k_is) (by k_is) (by k_is) (by k_is) (by k_is) (by k_is) (by k_is) (by k_is) (by k_is)
    have P_BadPrice := Lw.erc_mk (P := PySem.Challenge.rw_bundlekinds_k31_prices_compared.prog) (w := w) KX G (c := "BadPrice") (f := "price") (qn := "BadPrice.__init__") Lw.s_iBadPrice Lw.ok_iBadPrice (fun F => F.binds fun _ _ _ _ _ _ us hl => match us, hl with | [_, _], _ => rfl) (by k_is) (by k_is) (by k_is) (by k_is) (by k_is) (by k_is) (by k_is) (by k_is) (by k_is) (by k_is) (by k_is) (by k_is) (by k_is) (by k_is) (by k_is) (by k_is) (by k_is) (by k_is) (by k_is)
    have P_BadUnit := Lw.erc_mk (P := PySem.Challenge.rw_bundlekinds_k31_prices_compared.prog) (w := w) KX G (c := "BadUnit") (f := "value") (qn := "BadUnit.__init__") Lw.s_iBadUnit Lw.ok_iBadUnit (fun F => F.binds fun _ _ _ _ _ _ us hl => match us, hl with | [_, _], _ => rfl) (by k_is) (by k_is) (by k_is) (by k_is) (by k_is) (by k_is) (by k_is) (by k_is) (by k_is) (by k_is) (by k_is) (by k_is) (by k_is) (by k_is) (by k_is) (by k_is) (by k_is) (by k_is) (by k_is)
    have P_UnlikeGoods := Lw.erc_mk (P := PySem.Challenge.rw_bundlekinds_k31_prices_compared.prog) (w := w) KX G (c := "UnlikeGoods") (f := "names") (qn := "UnlikeGoods.__init__") Lw.s_iUnlikeGoods Lw.ok_iUnlikeGoods (fun F => F.binds fun _ _ _ _ _ _ us hl => match us, hl with | [_, _], _ => rfl) (by k_is) (by k_is) (by k_is) (by k_is) (by k_is) (by k_is) (by k_is) (by k_is) (by k_is) (by k_is) (by k_is) (by k_is) (by k_is) (by k_is) (by k_is) (by k_is) (by k_is) (by k_is) (by k_is)
    refine' Lw.all_mk KX G hmg P_BadName P_DuplicateName P_UnknownName P_BadCount P_BadBundle P_BadPrice P_BadUnit P_UnlikeGoods ?w_an ?w_aa ?w_uu ?w_xn ?w_gg ?aCP ?pg_ ?hd_ ?po_ ?sa_ ?mk_ ?kc_ ?ai_ ?ii_ ?lI ?cI ?kI ?uI ?rI_ ?al_NoneType ?kf_NoneType ?al_int ?kf_int ?al_str ?kf_str ?al_list ?kf_list ?al_tuple ?kf_tuple ?al_dict ?kf_dict ?nei_ ?obi_ ?cla_ ?clb_ ?clc_ ?kit_ ?nG ?nA ?nU ?pa_goods ?pe_goods ?pt_goods ?pr_goods ?lMgoods ?cMgoods ?kMgoods ?pa_unit ?pe_unit ?pt_unit ?pr_unit ?lMunit ?cMunit ?kMunit ?ma_amounts ?mi_amounts ?lMamounts ?cMamounts ?kMamounts ?ma_total ?mi_total ?lMtotal ?cMtotal ?kMtotal ?ma_getitem ?mi_getitem ?mf_getitem ?lMgetitem ?cMgetitem ?kMgetitem ?ma_raised ?mi_raised ?lMraised ?cMraised ?kMraised ?ma_in_unit ?mi_in_unit ?lMin_unit ?cMin_unit ?kMin_unit ?ma_covers ?mi_covers ?lMcovers ?cMcovers ?kMcovers ?ma_eq ?mi_eq ?lMeq ?cMeq ?kMeq ?aW ?lW ?cW ?kW ?tW ?a0 ?l0 ?c0 ?k0 ?a1 ?l1 ?c1 ?k1 ?a2 ?l2 ?c2 ?k2 ?a3 ?l3 ?c3 ?k3 ?a4 ?l4 ?c4 ?k4 ?a5 ?l5 ?c5 ?k5 ?a6 ?l6 ?c6 ?k6 ?a7 ?l7 ?c7 ?k7 ?a8 ?l8 ?c8 ?k8 ?a9 ?l9 ?c9 ?k9 ?a10 ?l10 ?c10 ?k10 ?a11 ?l11 ?c11 ?k11 ?a12 ?l12 ?c12 ?k12 ?a13 ?l13 ?c13 ?k13 ?a14 ?l14 ?c14 ?k14 ?a15 ?l15 ?c15 ?k15 ?a16 ?l16 ?c16 ?k16 ?z_abs ?z_list ?z_int ?z_len ?z_all ?z_range ?z_isinstance ?z_str ?z_enumerate ?z_tuple ?z_sorted ?z_bool ?z_dict ?z_sum ?z_max ?q_LETTERS ?r_LETTERS ?q_DIGITS ?r_DIGITS ?q_MOST_SIGNS ?r_MOST_SIGNS ?q_MOST_GOODS ?r_MOST_GOODS
    (case aCP => k_is); (case ai_ => k_is); (case w_an => first | k_is | rfl | decide +kernel); (case w_aa => first | k_is | rfl | decide +kernel); (case w_uu => first | k_is | rfl | decide +kernel); (case w_xn => first | k_is | rfl | decide +kernel); (case w_gg => first | k_is | rfl | decide +kernel); (case pg_ => k_is); (case hd_ => k_is); (case po_ => k_is); (case sa_ => k_is); (case mk_ => k_is); (case kc_ => k_is); (case ii_ => k_is); (case lI => k_is); (case cI => k_is); (case kI => k_is); (case uI => k_is); (case rI_ => exact ⟨_, rfl⟩); (case al_NoneType => first | k_is | rfl | decide +kernel); (case kf_NoneType => first | k_is | rfl | decide +kernel); (case al_int => first | k_is | rfl | decide +kernel); (case kf_int => first | k_is | rfl | decide +kernel); (case al_str => first | k_is | rfl | decide +kernel); (case kf_str => first | k_is | rfl | decide +kernel); (case al_list => first | k_is | rfl | decide +kernel); (case kf_list => first | k_is | rfl | decide +kernel); (case al_tuple => first | k_is | rfl | decide +kernel); (case kf_tuple => first | k_is | rfl | decide +kernel); (case al_dict => first | k_is | rfl | decide +kernel); (case kf_dict => first | k_is | rfl | decide +kernel); (case nei_ => k_is); (case obi_ => first | k_is | rfl | decide +kernel); (case cla_ => k_is); (case clb_ => first | k_is | rfl | decide +kernel); (case clc_ => first | k_is | rfl | decide +kernel); (case kit_ => first | k_is | rfl | decide +kernel); (case nG => k_is); (case nA => k_is); (case nU => k_is); (case pa_goods => k_is); (case pe_goods => k_is); (case pt_goods => k_is); (case pr_goods => k_is); (case lMgoods => k_is); (case cMgoods => k_is); (case kMgoods => k_is); (case pa_unit => k_is); (case pe_unit => k_is); (case pt_unit => k_is); (case pr_unit => k_is); (case lMunit => k_is); (case cMunit => k_is); (case kMunit => k_is); (case ma_amounts => k_is); (case mi_amounts => k_is); (case lMamounts => k_is); (case cMamounts => k_is); (case kMamounts => k_is); (case ma_total => k_is); (case mi_total => k_is); (case lMtotal => k_is); (case cMtotal => k_is); (case kMtotal => k_is); (case ma_getitem => k_is); (case mi_getitem => k_is); (case mf_getitem => k_is); (case lMgetitem => k_is); (case cMgetitem => k_is); (case kMgetitem => k_is); (case ma_raised => k_is); (case mi_raised => k_is); (case lMraised => k_is); (case cMraised => k_is); (case kMraised => k_is); (case ma_in_unit => k_is); (case mi_in_unit => k_is); (case lMin_unit => k_is); (case cMin_unit => k_is); (case kMin_unit => k_is); (case ma_covers => k_is); (case mi_covers => k_is); (case lMcovers => k_is); (case cMcovers => k_is); (case kMcovers => k_is); (case ma_eq => k_is); (case mi_eq => k_is); (case lMeq => k_is); (case cMeq => k_is); (case kMeq => k_is); (case aW => k_is); (case lW => k_is); (case cW => k_is); (case kW => k_is); (case tW => k_is); (case a0 => k_is); (case l0 => k_is); (case c0 => k_is); (case k0 => k_is); (case a1 => k_is); (case l1 => k_is); (case c1 => k_is); (case k1 => k_is); (case a2 => k_is); (case l2 => k_is); (case c2 => k_is); (case k2 => k_is); (case a3 => k_is); (case l3 => k_is); (case c3 => k_is); (case k3 => k_is); (case a4 => k_is); (case l4 => k_is); (case c4 => k_is); (case k4 => k_is); (case a5 => k_is); (case l5 => k_is); (case c5 => k_is); (case k5 => k_is); (case a6 => k_is); (case l6 => k_is); (case c6 => k_is); (case k6 => k_is); (case a7 => k_is); (case l7 => k_is); (case c7 => k_is); (case k7 => k_is); (case a8 => k_is); (case l8 => k_is); (case c8 => k_is); (case k8 => k_is); (case a9 => k_is); (case l9 => k_is); (case c9 => k_is); (case k9 => k_is); (case a10 => k_is); (case l10 => k_is); (case c10 => k_is); (case k10 => k_is); (case a11 => k_is); (case l11 => k_is); (case c11 => k_is); (case k11 => k_is); (case a12 => k_is); (case l12 => k_is); (case c12 => k_is); (case k12 => k_is); (case a13 => k_is); (case l13 => k_is); (case c13 => k_is); (case k13 => k_is); (case a14 => k_is); (case l14 => k_is); (case c14 => k_is); (case k14 => k_is); (case a15 => k_is); (case l15 => k_is); (case c15 => k_is); (case k15 => k_is); (case a16 => k_is); (case l16 => k_is); (case c16 => k_is); (case k16 => k_is); (case z_abs => k_is); (case z_list => k_is); (case z_int => k_is); (case z_len => k_is); (case z_all => k_is); (case z_range => k_is); (case z_isinstance => k_is); (case z_str => k_is); (case z_enumerate => k_is); (case z_tuple => k_is); (case z_sorted => k_is); (case z_bool => k_is); (case z_dict => k_is); (case z_sum => k_is); (case z_max => k_is); (case q_LETTERS => k_is); (case r_LETTERS => exact ⟨_, rfl⟩); (case q_DIGITS => k_is); (case r_DIGITS => exact ⟨_, rfl⟩); (case q_MOST_SIGNS => k_is); (case r_MOST_SIGNS => exact ⟨_, rfl⟩); (case q_MOST_GOODS => k_is); (case r_MOST_GOODS => exact ⟨_, rfl⟩)
