import PyProof.Rows.All
import HandS.ForMost
import HandS.IsInst
import HandS.Style
import HandS.TupAny
import HandS.TupLe
import HandS.Evl
import HandS.Walk
import HandS.ForExc
import HandS.ExcInit
import HandS.ExcField
import HandS.ExcIs
import HandS.TryMany
import KE.KExcIs
import KE.SortData
import KE.GoesMore
import HandS.Deep
import HandS.SetFor
import HandS.SetTxt0
import HandS.OwnEq
import HandS.ExcOwn
import HandS.ExcValue
import PySem.Challenge.RW_bundlekinds_k02_errors
set_option Elab.async false
set_option linter.all false
set_option maxRecDepth 100000
set_option maxHeartbeats 4000000
namespace Lw
open PySem PySem.Spec PyProof.Rows L2
/-! ### a list's item read for an augmented store -/
theorem pget_list {X : Cx} : PGet X (rIxL X.K) := by
  intro pins s σ H x y v u Q I rx ry h
  obtain ⟨p, xs, i, z, rfl, rfl, hq, he, q⟩ := h
  cases rx
  obtain ⟨t, rfl⟩ := ry
  obtain ⟨its, r, pl, hz⟩ := I.list hq
  obtain ⟨j, h1, h2, h3, h4, h5⟩ := atI_get he
  obtain ⟨w, ew, rw'⟩ := r.get h2
  have hl := r.length
  have hn := line63
  have fin : EP X pins σ Q w s := ⟨z, H, I, rw', q⟩
  by_cases h0 : 0 ≤ i
  · have hj : i.toNat = j := by
      rw [seqIndex_of h0 h5] at h1
      exact Option.some.inj h1
    exact wpAny_getItem_list pl.isList h0 (by omega) (by rw [hj]; simpa using ew) fin
  · have hj : (i + (its.toArray.size : Int)).toNat = j := by
      rw [seqIndex_neg (by omega) h4] at h1
      rw [List.size_toArray, ← hl]
      exact Option.some.inj h1
    exact wpAny_getItem_list_neg pl.isList (by omega) (by rw [List.size_toArray] <;> omega) (by omega) (by rw [hj]; simpa using ew) fin

/-- a constant of the module -/
theorem pe_gv {X : Cx} {x : Str} {pos : Pos} {v : V} (hg : Gl X x) (h : ∃ u, X.mg x = some u ∧ RelV v u) (hd : (x == ("__debug__" : Str)) = false := by decide) : PE X (.Name x pos) (tC v) := by
  obtain ⟨u, h1, h2⟩ := h
  exact pe_glob hg h1 h2 hd
/-! ### data that may be compared -/
def GoodD (n : Nat) (d : PyData) : Prop := d.canLay0 = true ∧ d.depth ≤ n
theorem GoodD.mono {n m : Nat} {d : PyData} (h : GoodD n d) (k : n ≤ m) : GoodD m d := ⟨h.1, Nat.le_trans h.2 k⟩
theorem GoodD.shaped {n : Nat} {d : PyData} (h : GoodD n d) (k : n ≤ 64) : SeqAt.shaped d = true := by
  unfold SeqAt.shaped
  rw [h.1, decide_eq_true (Nat.le_trans h.2 k)]
  rfl
theorem goodAll {n : Nat} : ∀ {ds : List PyData}, (∀ d ∈ ds, GoodD n d) → PyData.canLayAll0 ds = true ∧ PyData.depthAll ds ≤ n
  | [], _ => ⟨rfl, by simp [PyData.depthAll]⟩
  | d :: r, h => by
    obtain ⟨h1, h2⟩ := h d (List.mem_cons_self)
    obtain ⟨r1, r2⟩ := goodAll (ds := r) fun e he => h e (List.mem_cons_of_mem _ he)
    constructor
    · simp [PyData.canLayAll0, h1, r1]
    · simp only [PyData.depthAll]
      omega
theorem good_list {n : Nat} {ds : List PyData} (h : ∀ d ∈ ds, GoodD n d) : GoodD (n + 1) (.list ds) := by
  obtain ⟨a, b⟩ := goodAll h
  exact ⟨by simp [PyData.canLay0, a], by simp only [PyData.depth]; omega⟩
theorem good_tuple {n : Nat} {ds : List PyData} (h : ∀ d ∈ ds, GoodD n d) : GoodD (n + 1) (.tuple ds) := by
  obtain ⟨a, b⟩ := goodAll h
  exact ⟨by simp [PyData.canLay0, a], by simp only [PyData.depth]; omega⟩
theorem good_int {n : Nat} (i : Int) : GoodD n (.int i) := ⟨rfl, by simp [PyData.depth]⟩
theorem good_bool {n : Nat} (i : Bool) : GoodD n (.bool i) := ⟨rfl, by simp [PyData.depth]⟩
theorem good_none {n : Nat} : GoodD n .none := ⟨rfl, by simp [PyData.depth]⟩
/-- a text whose signs are code points -/
def SOk (z : Str) : Prop := ∀ c ∈ z.cps.toList, c < 0x110000
theorem good_str {n : Nat} {z : Str} (h : SOk z) : GoodD n (.str z) := by
  refine ⟨?_, by simp [PyData.depth]⟩
  simp only [PyData.canLay0]
  unfold PyData.strOk
  rw [← Array.all_toList, List.all_eq_true]
  intro c hc
  exact decide_eq_true (h c hc)
theorem dp_map {K : PySem.W.Frag} {H : Hp} {α : Type} {f : α → V} {g : α → PyData} : ∀ {xs : List α}, (∀ x ∈ xs, Dp K H (f x) (g x)) → DpAll K H (xs.map f) (xs.map g)
  | [], _ => .nil
  | x :: r, h => .cons (h x List.mem_cons_self) (dp_map fun y hy => h y (List.mem_cons_of_mem _ hy))
theorem dp_ints {K : PySem.W.Frag} {H : Hp} {a : Addr} {ns : List Int} (h : SqL K H a (ns.map V.int)) : Dp K H (.ref a) (.list (ns.map PyData.int)) := .lst h (dp_map fun x _ => .int x)
theorem dp_strs {K : PySem.W.Frag} {H : Hp} {a : Addr} {ns : List Str} (h : SqL K H a (ns.map V.str)) : Dp K H (.ref a) (.list (ns.map PyData.str)) := .lst h (dp_map fun x _ => .str x)
theorem dp_empty {K : PySem.W.Frag} {H : Hp} {a : Addr} (h : SqL K H a []) : Dp K H (.ref a) (.list []) := .lst h .nil
theorem dp_strsT {K : PySem.W.Frag} {H : Hp} {a : Addr} {ns : List Str} (h : SqT K H a (ns.map V.str)) : Dp K H (.ref a) (.tuple (ns.map PyData.str)) := .tup h (dp_map fun x _ => .str x)
theorem sh_ints (ns : List Int) : SeqAt.shaped (.list (ns.map PyData.int)) = true := PySem.W.ke_shaped_ints ns
theorem sh_empty : SeqAt.shaped (.list []) = true := PySem.W.ke_shaped_ints []
theorem good_strs {ns : List Str} (h : ∀ z ∈ ns, SOk z) : GoodD 1 (.list (ns.map PyData.str)) := good_list (n := 0) fun d hd => by
  obtain ⟨z, hz, rfl⟩ := List.mem_map.mp hd
  exact good_str (h z hz)
theorem good_strsT {ns : List Str} (h : ∀ z ∈ ns, SOk z) : GoodD 1 (.tuple (ns.map PyData.str)) := good_tuple (n := 0) fun d hd => by
  obtain ⟨z, hz, rfl⟩ := List.mem_map.mp hd
  exact good_str (h z hz)
theorem eqv_nil_map {α : Type} (f : α → PyData) (xs : List α) : PyData.eqv (.list (xs.map f)) (.list []) = decide (xs = []) := by
  cases xs with
  | nil => simp [PyData.eqv, PyData.eqvAll]
  | cons x r => simp [PyData.eqv, PyData.eqvAll]
theorem eqvAll_strs : ∀ xs ys : List Str, PyData.eqvAll (xs.map PyData.str) (ys.map PyData.str) = decide (xs = ys)
  | [], [] => by simp [PyData.eqvAll]
  | [], _ :: _ => by simp [PyData.eqvAll]
  | _ :: _, [] => by simp [PyData.eqvAll]
  | x :: r, y :: t => by
    simp only [List.map_cons, PyData.eqvAll, PyData.eqv, eqvAll_strs r t]
    by_cases h : x = y <;> by_cases h' : r = t <;> simp [h, h']
theorem eqv_strs (xs ys : List Str) : PyData.eqv (.list (xs.map PyData.str)) (.list (ys.map PyData.str)) = decide (xs = ys) := by
  simp only [PyData.eqv, eqvAll_strs]
theorem eqv_strsT (xs ys : List Str) : PyData.eqv (.tuple (xs.map PyData.str)) (.tuple (ys.map PyData.str)) = decide (xs = ys) := by
  simp only [PyData.eqv, eqvAll_strs]

/-! ### the drawing state: at st the list of the big cells (at q), the cells (at r), the counter -/
structure DX (H : Hp) (st q r : Addr) (bs cs : List Int) (c : Int) : Prop where
  st' : H st = some (.lst [.ref q, .ref r, .int c])
  q' : H q = some (.lst (bs.map V.int))
  r' : H r = some (.lst (cs.map V.int))
  qr : q ≠ r
  qs : q ≠ st
  rs : r ≠ st
theorem DX.new {H : Hp} {st q r p : Addr} {bs cs : List Int} {c : Int} {o : HO} (D : DX H st q r bs cs c) (h : H p = none) : DX (upd H p o) st q r bs cs c :=
  ⟨(upd_ne (ne_of_none D.st' h)).trans D.st', (upd_ne (ne_of_none D.q' h)).trans D.q', (upd_ne (ne_of_none D.r' h)).trans D.r', D.qr, D.qs, D.rs⟩
theorem DX.count {H : Hp} {st q r : Addr} {bs cs : List Int} {c d : Int} (D : DX H st q r bs cs c) : DX (upd H st (.lst [.ref q, .ref r, .int d])) st q r bs cs d :=
  ⟨upd_same, (upd_ne D.qs).trans D.q', (upd_ne D.rs).trans D.r', D.qr, D.qs, D.rs⟩
theorem DX.swap {H : Hp} {st q r p : Addr} {bs cs ds : List Int} {c : Int} (D : DX H st q r bs cs c) (h : H p = none) : DX (upd (upd H p (.lst (ds.map V.int))) st (.lst [.ref p, .ref r, .int c])) st p r ds cs c := by
  have h1 := ne_of_none D.st' h
  have h2 := ne_of_none D.r' h
  exact ⟨upd_same, (upd_ne h1.symm).trans upd_same, (upd_ne D.rs).trans ((upd_ne h2).trans D.r'), h2.symm, h1.symm, D.rs⟩
theorem DX.own {H : Hp} {st q r : Addr} {bs cs ds : List Int} {c : Int} (D : DX H st q r bs cs c) : DX (upd H q (.lst (ds.map V.int))) st q r ds cs c :=
  ⟨(upd_ne D.qs.symm).trans D.st', upd_same, (upd_ne D.qr.symm).trans D.r', D.qr, D.qs, D.rs⟩
/-- .. its counter at most n -/
def DS (H : Hp) (st : Addr) (n : Nat) : Prop := ∃ (q r : Addr) (bs cs : List Int) (c : Int), DX H st q r bs cs c ∧ (∀ b ∈ bs, 0 ≤ b) ∧ cs ≠ [] ∧ 0 ≤ c ∧ c ≤ n
/-- b holds o, apart from the drawing state -/
def Ap (H : Hp) (st b : Addr) (o : HO) : Prop := H b = some o ∧ b ≠ st ∧ ∀ l, H st = some (.lst l) → V.ref b ∉ l
theorem ap_iff {H : Hp} {st q r b : Addr} {bs cs : List Int} {c : Int} {o : HO} (D : DX H st q r bs cs c) : Ap H st b o ↔ (H b = some o ∧ b ≠ st ∧ b ≠ q ∧ b ≠ r) := by
  constructor
  · rintro ⟨e, n, h⟩
    have := h _ D.st'
    simp only [List.mem_cons, V.ref.injEq, List.not_mem_nil, or_false, not_or] at this
    exact ⟨e, n, this.1, this.2.1⟩
  · rintro ⟨e, n, h1, h2⟩
    refine ⟨e, n, fun l hl => ?_⟩
    rw [D.st'] at hl
    cases hl
    simp only [List.mem_cons, V.ref.injEq, List.not_mem_nil, or_false, not_or]
    exact ⟨h1, h2, fun z => nomatch z⟩
/-- what stands apart from the drawing state stays -/
def Kp (st : Addr) (H H' : Hp) : Prop := ∀ b o, Ap H st b o → Ap H' st b o
theorem Kp.refl (st : Addr) (H : Hp) : Kp st H H := fun _ _ h => h
theorem Kp.trans {st : Addr} {H H1 H2 : Hp} (a : Kp st H H1) (b : Kp st H1 H2) : Kp st H H2 := fun c o h => b c o (a c o h)
theorem Kp.dx {st q r q' r' : Addr} {H H' : Hp} {bs cs bs' cs' : List Int} {c c' : Int} (D : DX H st q r bs cs c) (D' : DX H' st q' r' bs' cs' c') (h : ∀ b o, H b = some o → b ≠ st → b ≠ q → b ≠ r → H' b = some o ∧ b ≠ q' ∧ b ≠ r') : Kp st H H' := fun b o a => by
  obtain ⟨e, n, n1, n2⟩ := (ap_iff D).mp a
  obtain ⟨e', m1, m2⟩ := h b o e n n1 n2
  exact (ap_iff D').mpr ⟨e', n, m1, m2⟩
theorem DX.newK {H : Hp} {st q r p : Addr} {bs cs : List Int} {c : Int} {o : HO} (D : DX H st q r bs cs c) (h : H p = none) : Kp st H (upd H p o) :=
  Kp.dx D (D.new h) fun b u e _ n1 n2 => ⟨(upd_ne (ne_of_none e h)).trans e, n1, n2⟩
theorem DX.ownK {H : Hp} {st q r : Addr} {bs cs ds : List Int} {c : Int} (D : DX H st q r bs cs c) : Kp st H (upd H q (.lst (ds.map V.int))) :=
  Kp.dx D D.own fun b u e _ n1 n2 => ⟨(upd_ne n1).trans e, n1, n2⟩
theorem DX.countK {H : Hp} {st q r : Addr} {bs cs : List Int} {c d : Int} (D : DX H st q r bs cs c) : Kp st H (upd H st (.lst [.ref q, .ref r, .int d])) :=
  Kp.dx D D.count fun b u e n n1 n2 => ⟨(upd_ne n).trans e, n1, n2⟩
theorem DX.swapK {H : Hp} {st q r p : Addr} {bs cs ds : List Int} {c : Int} (D : DX H st q r bs cs c) (h : H p = none) : Kp st H (upd (upd H p (.lst (ds.map V.int))) st (.lst [.ref p, .ref r, .int c])) :=
  Kp.dx D (D.swap h) fun b u e n n1 n2 => ⟨(upd_ne n).trans ((upd_ne (ne_of_none e h)).trans e), ne_of_none e h, n2⟩
theorem DS.new {H : Hp} {st p : Addr} {n : Nat} {o : HO} (D : DS H st n) (h : H p = none) : DS (upd H p o) st n := by
  obtain ⟨q, r, bs, cs, c, d, h1, h2, h3, h4⟩ := D
  exact ⟨q, r, bs, cs, c, d.new h, h1, h2, h3, h4⟩
theorem DS.newK {H : Hp} {st p : Addr} {n : Nat} {o : HO} (D : DS H st n) (h : H p = none) : Kp st H (upd H p o) := by
  obtain ⟨q, r, bs, cs, c, d, h1, h2, h3, h4⟩ := D
  exact d.newK h
theorem DS.mono {H : Hp} {st : Addr} {n m : Nat} (D : DS H st n) (h : n ≤ m) : DS H st m := by
  obtain ⟨q, r, bs, cs, c, d, h1, h2, h3, h4⟩ := D
  exact ⟨q, r, bs, cs, c, d, h1, h2, h3, by omega⟩
/-- a new object stands apart -/
theorem DS.fresh {H : Hp} {st p : Addr} {n : Nat} {o : HO} (D : DS H st n) (h : H p = none) : Ap (upd H p o) st p o := by
  obtain ⟨q, r, bs, cs, c, d, h1, h2, h3, h4⟩ := D
  exact (ap_iff (d.new h)).mpr ⟨upd_same, (ne_of_none d.st' h).symm, (ne_of_none d.q' h).symm, (ne_of_none d.r' h).symm⟩
/-- an object that stands apart is stored to -/
theorem DS.put {H : Hp} {st b : Addr} {n : Nat} {o u : HO} (D : DS H st n) (a : Ap H st b o) : DS (upd H b u) st n := by
  obtain ⟨q, r, bs, cs, c, d, h1, h2, h3, h4⟩ := D
  obtain ⟨e, n1, n2, n3⟩ := (ap_iff d).mp a
  exact ⟨q, r, bs, cs, c, ⟨(upd_ne n1.symm).trans d.st', (upd_ne n2.symm).trans d.q', (upd_ne n3.symm).trans d.r', d.qr, d.qs, d.rs⟩, h1, h2, h3, h4⟩
theorem DS.putA {H : Hp} {st b : Addr} {n : Nat} {o u : HO} (D : DS H st n) (a : Ap H st b o) : Ap (upd H b u) st b u := by
  obtain ⟨q, r, bs, cs, c, d, h1, h2, h3, h4⟩ := D
  obtain ⟨e, n1, n2, n3⟩ := (ap_iff d).mp a
  have d' : DX (upd H b u) st q r bs cs c := ⟨(upd_ne n1.symm).trans d.st', (upd_ne n2.symm).trans d.q', (upd_ne n3.symm).trans d.r', d.qr, d.qs, d.rs⟩
  exact (ap_iff d').mpr ⟨upd_same, n1, n2, n3⟩
theorem Ap.put {H : Hp} {st b p : Addr} {n : Nat} {o u v : HO} (D : DS H st n) (a : Ap H st b o) (h : Ap H st p v) (ne : p ≠ b) : Ap (upd H b u) st p v := by
  obtain ⟨q, r, bs, cs, c, d, h1, h2, h3, h4⟩ := D
  obtain ⟨e, n1, n2, n3⟩ := (ap_iff d).mp a
  obtain ⟨f, m1, m2, m3⟩ := (ap_iff d).mp h
  have d' : DX (upd H b u) st q r bs cs c := ⟨(upd_ne n1.symm).trans d.st', (upd_ne n2.symm).trans d.q', (upd_ne n3.symm).trans d.r', d.qr, d.qs, d.rs⟩
  exact (ap_iff d').mpr ⟨(upd_ne ne).trans f, m1, m2, m3⟩
end Lw

namespace Lw
open PySem PySem.Spec PyProof.Rows L2 Evl
section
variable {K : PySem.W.Frag} {σ : L2.St} {H H' : Hp} {ta tb tc te tl : TE} {t u : TT} {x y z v : V} {r r' : R2}
theorem ev_chain {a b : Bool} (ha : Ev ta σ H x) (hb : Ev tb σ H y) (h1 : RV r x y H (.bl a)) (hc : a = true → Ev tc σ H z) (h2 : a = true → RV r' y z H (.bl b)) : Ev (tChain r r' ta tb tc) σ H (.bl (a && b)) := fun H1 e Q q =>
  ha H1 e _ fun H2 e2 => hb H2 (e.trans e2) _ fun H3 e3 => h1 H3 ((e.trans e2).trans e3) _ fun H4 e4 => ⟨a, rfl, by
    cases a with
    | true =>
      exact hc rfl H4 (((e.trans e2).trans e3).trans e4) _ fun H5 e5 => h2 rfl H5 ((((e.trans e2).trans e3).trans e4).trans e5) Q fun H6 e6 => q H6 ((((e2.trans e3).trans e4).trans e5).trans e6)
    | false => exact q H4 ((e2.trans e3).trans e4)⟩
theorem rc_lenStr {z : Str} (h : z.length ≤ sizeLine) : RC (fun xs H Q => ∃ z, xs = [.str z] ∧ z.length ≤ sizeLine ∧ Q (.int z.length) H) [.str z] H (.int z.length) := fun H1 _ _ q => ⟨z, rfl, h, q H1 (Ex.refl H1)⟩
theorem rc_lenL {p : Addr} {xs : List V} (h : SqL K H p xs) : RC (fun xs H Q => ∃ p ys, xs = [.ref p] ∧ (SqL K H p ys ∨ SqT K H p ys) ∧ Q (.int ys.length) H) [.ref p] H (.int (xs.length : Int)) := fun H1 e _ q => ⟨p, xs, rfl, .inl (ex_l e h), q H1 (Ex.refl H1)⟩
theorem rc_lenT {p : Addr} {xs : List V} (h : SqT K H p xs) : RC (fun xs H Q => ∃ p ys, xs = [.ref p] ∧ (SqL K H p ys ∨ SqT K H p ys) ∧ Q (.int ys.length) H) [.ref p] H (.int (xs.length : Int)) := fun H1 e _ q => ⟨p, xs, rfl, .inr (ex_t e h), q H1 (Ex.refl H1)⟩
theorem rc_int {i : Int} : RC (fun xs H Q => (∃ i, xs = [.int i] ∧ Q (.int i) H) ∨ ∃ k, xs = [.bl k] ∧ Q (.int (if k then 1 else 0)) H) [.int i] H (.int i) := fun H1 _ _ q => .inl ⟨i, rfl, q H1 (Ex.refl H1)⟩
theorem rc_intB {k : Bool} : RC (fun xs H Q => (∃ i, xs = [.int i] ∧ Q (.int i) H) ∨ ∃ k, xs = [.bl k] ∧ Q (.int (if k then 1 else 0)) H) [.bl k] H (.int (if k then 1 else 0)) := fun H1 _ _ q => .inr ⟨k, rfl, q H1 (Ex.refl H1)⟩
theorem rv_sign {c : Nat} {z : Str} : RV (fun x y H Q => ∃ (c : Nat) (z : Str), x = .str ⟨#[c]⟩ ∧ y = .str z ∧ Q (.bl (decide (c ∈ z.cps.toList))) H) (.str ⟨#[c]⟩) (.str z) H (.bl (decide (c ∈ z.cps.toList))) := fun H1 _ _ q => ⟨c, z, rfl, rfl, q H1 (Ex.refl H1)⟩
theorem rv_nsign {c : Nat} {z : Str} : RV (fun x y H Q => ∃ (c : Nat) (z : Str), x = .str ⟨#[c]⟩ ∧ y = .str z ∧ Q (.bl (!decide (c ∈ z.cps.toList))) H) (.str ⟨#[c]⟩) (.str z) H (.bl (!decide (c ∈ z.cps.toList))) := fun H1 _ _ q => ⟨c, z, rfl, rfl, q H1 (Ex.refl H1)⟩
theorem rv_addS {a b : Str} (h : a.length + b.length ≤ sizeLine) : RV (fun x y H Q => ∃ i j, x = .str i ∧ y = .str j ∧ i.length + j.length ≤ sizeLine ∧ Q (.str (i ++ j)) H) (.str a) (.str b) H (.str (a ++ b)) := fun H1 _ _ q => ⟨a, b, rfl, rfl, h, q H1 (Ex.refl H1)⟩
/-- a call one of whose arguments is a new list -/
theorem ev_cbL {r : List V → Hp → VK → Prop} {xs : List V} (h : EvL ta σ H xs) (hr : ∀ p H1, H1 p = some (.lst xs) → Ex H H1 → RC r [.ref p] H1 z) : Ev (tCB r (tCons ta tNil)) σ H z := fun H1 e Q q =>
  h H1 e _ fun p H2 _ e2 hp => hr p H2 hp (e.trans e2) H2 (Ex.refl H2) Q fun H3 e3 => q H3 (e2.trans e3)
theorem rc_all {p : Addr} {bs : List Bool} (h : SqL K H p (bs.map V.bl)) : RC (rAll K) [.ref p] H (.bl (bs.all id)) := fun H1 e _ q => ⟨p, bs, rfl, ex_l e h, q H1 (Ex.refl H1)⟩
theorem rv_eqD {d e : PyData} (hx : ∀ H1, Ex H H1 → Dp K H1 x d) (hy : ∀ H1, Ex H H1 → Dp K H1 y e) (sd : SeqAt.shaped d = true) (se : SeqAt.shaped e = true) : RV (rEqD K) x y H (.bl (PyData.eqv d e)) := fun H1 k _ q => ⟨d, e, hx H1 k, hy H1 k, sd, se, q H1 (Ex.refl H1)⟩
theorem rv_neD {d e : PyData} (hx : ∀ H1, Ex H H1 → Dp K H1 x d) (hy : ∀ H1, Ex H H1 → Dp K H1 y e) (sd : SeqAt.shaped d = true) (se : SeqAt.shaped e = true) : RV (rNeD K) x y H (.bl (!PyData.eqv d e)) := fun H1 k _ q => ⟨d, e, hx H1 k, hy H1 k, sd, se, q H1 (Ex.refl H1)⟩
end
/-! ### comprehensions by lists -/
theorem given_list {α : Type} (p : α → Bool) (g : α → V) (xs : List α) : given xs.length (fun i => (xs[i]?.map p).getD false) (fun i => (xs[i]?.map g).getD .non) = (xs.filter p).map g := by
  have key : ∀ n, n ≤ xs.length → given n (fun i => (xs[i]?.map p).getD false) (fun i => (xs[i]?.map g).getD .non) = ((xs.take n).filter p).map g := by
    intro n
    induction n with
    | zero => intro _; rfl
    | succ n ih =>
      intro hn
      have hx : xs[n]? = some xs[n] := List.getElem?_eq_getElem (by omega)
      cases hp : p xs[n] with
      | true =>
        rw [given_yes (by rw [hx]; exact hp), ih (by omega), List.take_add_one, hx, List.filter_append, List.map_append]
        simp [hp, hx]
      | false =>
        rw [given_no (by rw [hx]; exact hp), ih (by omega), List.take_add_one, hx, List.filter_append, List.map_append]
        simp [hp, hx]
  rw [key _ (Nat.le_refl _), List.take_length]
section
variable {K : PySem.W.Frag} {σ : L2.St} {H H' : Hp} {ta tb tc te tl : TE} {t u : TT} {x y z v : V} {r r' : R2}
theorem cw_it {J : It} {n : Nat} {G : Hp → Prop} {Y : Nat → Hp → V → Hp → Prop} (w : Walk J n G Y) {H : Hp} {j : Nat} {vs : List Nat} (f : Nat → Bool) (v : Nat → V) (val : Nat → V) {Dl : Addr} (hD : H Dl = none) (hn : n ≤ 40000) (hG : ∀ H1, Ex H H1 → G H1)
    (hY : ∀ i H1 x H2, Ex H H1 → i < n → Y i H1 x H2 → H2 = H1 ∧ x = val i)
    (hw : ∀ x, wipe ((wipe σ vs).set j (some x)) vs = wipe σ vs)
    (ht : ∀ (i : Nat), i < n → EvT t ((wipe σ vs).set j (some (val i))) H (f i)) (he : ∀ (i : Nat), i < n → f i = true → Ev te ((wipe σ vs).set j (some (val i))) H (v i)) {Qd : Hp → Prop} (hd : ∀ H1, Cw H f v Dl n H1 → Qd H1) :
    ∃ W : Nat → Nat → Hp → Prop, (∃ m, W 0 m (upd H Dl (.lst []))) ∧ ∀ i m H, W i m H →
      (J.stop i H ∧ Qd H) ∨ (J.go i H ∧ ∃ Nx : Hp → Prop, (∀ H', Nx H' → ∃ m', m' < m ∧ W (i + 1) m' H') ∧ ∀ x H', J.yld i H x H' → (gName j) x (wipe σ vs) H' fun σ2 H2 => wipe σ2 vs = wipe σ vs ∧ t σ2 H2 fun b H3 =>
        if b = true then te σ2 H3 fun y H4 => ∃ acc, H4 Dl = some (.lst acc) ∧ acc.length < sizeLine ∧ Nx (upd H4 Dl (.lst (acc ++ [y]))) else Nx H3) :=
  lc_it w (Cw H f v Dl) ⟨hD, Ex.new hD, upd_same⟩ (fun i H1 _ p => hG H1 p.2.1) (fun i x H1 H2 hi p y => by
    obtain ⟨rfl, rfl⟩ := hY i H1 x H2 p.2.1 hi y
    exact ⟨hw _, cw_turn p (by omega) (ht i hi) (he i hi)⟩) hd
/-- over a text -/
theorem el_lcS {j : Nat} {vs : List Nat} {z : Str} (p : Nat → Bool) (g : Nat → V) (h : Ev tl σ H (.str z)) (hz : z.length ≤ 40000) (hw : ∀ x, wipe ((wipe σ vs).set j (some x)) vs = wipe σ vs)
    (ht : ∀ (c : Nat) H1, Ex H H1 → c ∈ z.cps.toList → EvT t ((wipe σ vs).set j (some (.str ⟨#[c]⟩))) H1 (p c)) (he : ∀ (c : Nat) H1, Ex H H1 → c ∈ z.cps.toList → p c = true → Ev te ((wipe σ vs).set j (some (.str ⟨#[c]⟩))) H1 (g c)) :
    EvL (tLc (iStr tl) (gName j) t te vs) σ H ((z.cps.toList.filter p).map g) := fun H0 e Q q => h H0 e _ fun H1 e1 => ⟨z, rfl, fun Dl hD => by
  have hs : z.cps.size = z.cps.toList.length := by simp
  have hat : ∀ i, i < z.cps.size → ∃ c, z.cps.toList[i]? = some c ∧ z.cps[i]? = some c ∧ c ∈ z.cps.toList := fun i hi => by
    have h1 : z.cps.toList[i]? = some z.cps.toList[i] := List.getElem?_eq_getElem (by omega)
    exact ⟨_, h1, by simpa using h1, List.getElem_mem _⟩
  have gl := given_list p g z.cps.toList
  refine cw_it walk_str (fun i => (z.cps.toList[i]?.map p).getD false) (fun i => (z.cps.toList[i]?.map g).getD .non) (fun i => .str ⟨#[(z.cps.toList[i]?).getD 0]⟩) hD hz (fun _ _ => trivial) (fun i H2 x H3 _ hi y => ?_) hw (fun i hi => ?_) (fun i hi hf => ?_) (fun H2 k => ?_)
  · obtain ⟨rfl, c, hc, rfl⟩ := y
    obtain ⟨c', h1, h2, _⟩ := hat i hi
    rw [hc] at h2
    cases h2
    rw [h1]
    exact ⟨rfl, rfl⟩
  · obtain ⟨c, h1, _, hm⟩ := hat i hi
    rw [h1]
    exact ht c H1 (e.trans e1) hm
  · obtain ⟨c, h1, _, hm⟩ := hat i hi
    rw [h1] at hf ⊢
    exact he c H1 (e.trans e1) hm hf
  · refine q Dl H2 (fresh_back e1 k.1) (e1.trans k.2.1) ?_
    rw [← gl, ← hs]
    exact k.2.2⟩
/-- over a list -/
theorem el_lcM {α : Type} {j : Nat} {vs : List Nat} {a : Addr} {xs : List α} {cv : α → V} (p : α → Bool) (g : α → V) (h : Ev tl σ H (.ref a)) (hx : SqL K H a (xs.map cv)) (hz : xs.length ≤ 40000) (hw : ∀ x, wipe ((wipe σ vs).set j (some x)) vs = wipe σ vs)
    (ht : ∀ (c : α) H1, Ex H H1 → c ∈ xs → EvT t ((wipe σ vs).set j (some (cv c))) H1 (p c)) (he : ∀ (c : α) H1, Ex H H1 → c ∈ xs → p c = true → Ev te ((wipe σ vs).set j (some (cv c))) H1 (g c)) :
    EvL (tLc (iList K tl) (gName j) t te vs) σ H ((xs.filter p).map g) := fun H0 e Q q => h H0 e _ fun H1 e1 => ⟨a, rfl, ⟨_, ex_l (e.trans e1) hx⟩, fun Dl hD => by
  have hat : ∀ i, i < xs.length → ∃ c, xs[i]? = some c ∧ (xs.map cv)[i]? = some (cv c) ∧ c ∈ xs := fun i hi => by
    have h1 : xs[i]? = some xs[i] := List.getElem?_eq_getElem hi
    exact ⟨_, h1, by rw [List.getElem?_map, h1]; rfl, List.getElem_mem _⟩
  have gl := given_list p g xs
  have hl : (xs.map cv).length = xs.length := List.length_map ..
  refine cw_it (n := (xs.map cv).length) (walk_list (xs := xs.map cv)) (fun i => (xs[i]?.map p).getD false) (fun i => (xs[i]?.map g).getD .non) (fun i => ((xs.map cv)[i]?).getD .non) hD (by omega) (fun H2 e2 => ex_l ((e.trans e1).trans e2) hx) (fun i H2 x H3 _ hi y => ?_) hw (fun i hi => ?_) (fun i hi hf => ?_) (fun H2 k => ?_)
  · obtain ⟨rfl, hc⟩ := y
    rw [hc]
    exact ⟨rfl, rfl⟩
  · obtain ⟨c, h1, h2, hm⟩ := hat i (by omega)
    rw [h1, h2]
    exact ht c H1 (e.trans e1) hm
  · obtain ⟨c, h1, h2, hm⟩ := hat i (by omega)
    rw [h1] at hf ⊢
    rw [h2]
    exact he c H1 (e.trans e1) hm hf
  · refine q Dl H2 (fresh_back e1 k.1) (e1.trans k.2.1) ?_
    rw [← gl, ← hl]
    exact k.2.2⟩
/-- over a tuple -/
theorem el_lcT {α : Type} {j : Nat} {vs : List Nat} {a : Addr} {xs : List α} {cv : α → V} (p : α → Bool) (g : α → V) (h : Ev tl σ H (.ref a)) (hx : SqT K H a (xs.map cv)) (hz : xs.length ≤ 40000) (hw : ∀ x, wipe ((wipe σ vs).set j (some x)) vs = wipe σ vs)
    (ht : ∀ (c : α) H1, Ex H H1 → c ∈ xs → EvT t ((wipe σ vs).set j (some (cv c))) H1 (p c)) (he : ∀ (c : α) H1, Ex H H1 → c ∈ xs → p c = true → Ev te ((wipe σ vs).set j (some (cv c))) H1 (g c)) :
    EvL (tLc (iTup K tl) (gName j) t te vs) σ H ((xs.filter p).map g) := fun H0 e Q q => h H0 e _ fun H1 e1 => ⟨a, rfl, ⟨_, ex_t (e.trans e1) hx⟩, fun Dl hD => by
  have hat : ∀ i, i < xs.length → ∃ c, xs[i]? = some c ∧ (xs.map cv)[i]? = some (cv c) ∧ c ∈ xs := fun i hi => by
    have h1 : xs[i]? = some xs[i] := List.getElem?_eq_getElem hi
    exact ⟨_, h1, by rw [List.getElem?_map, h1]; rfl, List.getElem_mem _⟩
  have gl := given_list p g xs
  have hl : (xs.map cv).length = xs.length := List.length_map ..
  refine cw_it (n := (xs.map cv).length) (walk_tup (xs := xs.map cv)) (fun i => (xs[i]?.map p).getD false) (fun i => (xs[i]?.map g).getD .non) (fun i => ((xs.map cv)[i]?).getD .non) hD (by omega) (fun H2 e2 => ex_t ((e.trans e1).trans e2) hx) (fun i H2 x H3 _ hi y => ?_) hw (fun i hi => ?_) (fun i hi hf => ?_) (fun H2 k => ?_)
  · obtain ⟨rfl, hc⟩ := y
    rw [hc]
    exact ⟨rfl, rfl⟩
  · obtain ⟨c, h1, h2, hm⟩ := hat i (by omega)
    rw [h1, h2]
    exact ht c H1 (e.trans e1) hm
  · obtain ⟨c, h1, h2, hm⟩ := hat i (by omega)
    rw [h1] at hf ⊢
    rw [h2]
    exact he c H1 (e.trans e1) hm hf
  · refine q Dl H2 (fresh_back e1 k.1) (e1.trans k.2.1) ?_
    rw [← gl, ← hl]
    exact k.2.2⟩
theorem et_yes : EvT tYes σ H true := fun H1 _ _ q => q H1 (Ex.refl H1)
end
end Lw

namespace Lw
open PySem PySem.Spec PyProof.Rows L2
section
variable {X : Cx} {CX : CXT} {E : XK} {k : Nat} {f : Addr} {fd : FuncData} {ps ks : List Str} {sp : Sp} {x : Str} {kws : List Keyword} {tk : TA} {p pos : Pos} {g : List Value → List Value → List Value} {gV : List V → List V → List V}
/-- f(k = v, ..) -/
theorem pe_callK0 (F : FnOk X.prog X.w X.K X.mg X.base CX k f fd ps sp) (hr : Room k X.A) (hg : Gl X x) (hm : X.mg x = some (.ref f)) (hk : PySem.W.keepIn X.K (.ref f) = true) (hb : KBinds X.K fd ps ks g gV) (hx : Passes CX X E)
    (hkw : PK X kws tk) (hall : (backToKw pos (keywordEach kws X.env)).all (·.1.isSome) = true := by rfl) (hks : (backToKw pos (keywordEach kws X.env)).filterMap (·.1) = ks := by rfl)
    (hdb : (x == ("__debug__" : Str)) = false := by decide)
    (hpl : ((backTo pos (starEach [] X.env)).any (·.1) || (backToKw pos (keywordEach kws X.env)).any (·.1.isNone)) = false := by rfl) :
    PE X (.Call (.Name x p) [] kws pos) (tCallK sp gV E tNil tk) := by
  refine ⟨fun pins s σ H Q I h => ?_⟩
  refine wpAny_Call_Name_kw (ld_glob I hg hm ?_ hdb)
  refine PySem.W.callWith_KW0 (h₀ := X.base) I.ok.mod.kin hk hall ?_ hpl
  refine thn (hkw.run pos pins s σ H _ I h) fun ws s2 ⟨zs, H2, I2, rz, q2⟩ => ⟨I2.kIn, ?_⟩
  rw [hks]
  exact run_fnk (us := []) (vs := []) F hr hb hx I2 .nil rz q2
end
section
variable {X : Cx}
def revS (z : Str) : Str := ⟨z.cps.toList.reverse.toArray⟩
theorem revS_len (z : Str) : (revS z).length = z.length := by simp [revS, Str.length]
def tRevS (te : TE) : TE := fun σ H Q => te σ H fun x H1 => ∃ z, x = .str z ∧ z.length ≤ sizeLine ∧ Q (.str (revS z)) H1
theorem pe_revS {e : Expr} {te : TE} {k : Nat} {p1 p2 p3 pos : Pos} (he : PE X e te) : PE X (.Subscript e (.Slice none none (some (.UnaryOp .USub (.Constant (.int 1) k p1) p2)) p3) pos) (tRevS te) := by
  refine ⟨fun pins s σ H Q I h => ?_⟩
  refine Subscript_ (thn (he.run pins s σ H _ I h) fun v s1 ⟨x, H1, I1, r1, q1⟩ => ?_)
  obtain ⟨z, ex, hz, q⟩ := q1
  subst ex
  obtain ⟨t, rfl⟩ := r1
  have hst : PO X (some (.UnaryOp .USub (.Constant (.int 1) k p1) p2)) (tPart (tUn (rU fun i => .int (-i)) (tC (.int 1)))) := po_some (pe_un un_neg pe_int)
  refine wpAny_Slice (thn (po_none.run pins s1 σ H1 (fun o H2 => o = none ∧ H2 = H1) I1 ⟨rfl, rfl⟩) fun vl s2 ⟨l, H2, I2, pl, el, e2⟩ => ?_)
  subst el e2
  refine thn (po_none.run pins s2 σ H2 (fun o H3 => o = none ∧ H3 = H2) I2 ⟨rfl, rfl⟩) fun vu s3 ⟨u, H3, I3, pu, eu, e3⟩ => ?_
  subst eu e3
  refine thn (hst.run pins s3 σ H3 (fun o H4 => o = some (-1) ∧ H4 = H3) I3 ⟨1, rfl, -1, rfl, rfl, rfl⟩) fun vs s4 ⟨o, H4, I4, ps, eo, e4⟩ => ?_
  subst eo e4
  have I5 : Inv X pins σ H4 { s4 with heap := s4.heap.push { cls := .type "slice", data := .fields #[vl, vu, vs] } } := I4.kept (t' := s4.toks) fun b ob q => Heap.get?_push_of_some _ q
  cases pl
  cases pu
  cases ps with
  | int _ tk =>
    show wpAny (model X.prog X.w) X.A (subscriptTail e (.Slice none none (some (.UnaryOp .USub (.Constant (.int 1) k p1) p2)) p3) (.str z t) (.ref s4.heap.objs.size)) (EP X pins σ Q) X.xe { s4 with heap := s4.heap.push { cls := .type "slice", data := .fields #[.none, .none, .int (-1) tk] } }
    refine tail_any (ops := [.str z t, .ref s4.heap.objs.size]) (typeIs_str _ _ _) F.slot_str_getitem.lookup ?_ (by with_unfolding_all rfl)
    refine wpAny_getItem_str_slice (l := none) (u := none) (st := some (-1, tk)) ⟨_, Heap.get?_push_size _ rfl, rfl, rfl⟩ rfl ?_
    have hm : sliceMade z t none none (some (-1, tk)) = .str (revS z) := by
      unfold sliceMade
      rw [if_neg (by simp)]
      show Made.str ⟨((Builtin.Str.strSliceIndices none none (-1) z.length).filterMap (z.cps[·]?)).toArray⟩ = Made.str (revS z)
      rw [picked_rev, PySem.W.krv_range, List.filterMap_reverse]
      show Made.str ⟨(((List.range z.cps.size).filterMap (z.cps[·]?)).reverse).toArray⟩ = _
      rw [PySem.W.krv_all]
      rfl
    rw [hm]
    refine ⟨by rw [revS_len]; exact hz, .str _, H4, I5.tok _, ⟨_, rfl⟩, q⟩
end
end Lw
namespace Lw
open PySem PySem.Spec PyProof.Rows L2
theorem joinL_nil : ∀ ps : List (List Nat), TL.joinL [] ps = ps.flatten
  | [] => rfl
  | [p] => by simp [TL.joinL]
  | p :: q :: r => by
    show p ++ ([] ++ TL.joinL [] (q :: r)) = _
    rw [joinL_nil (q :: r)]
    simp
theorem join0 (zs : List Str) : (Txt.join "" zs).cps.toList = (zs.map fun z => z.cps.toList).flatten := by
  rw [TL.join_eq]
  show TL.tl (Str.join "" zs) = _
  rw [TL.tl_join, show TL.tl ("" : Str) = [] by decide +kernel]
  exact joinL_nil _
theorem len_tl (z : Str) : z.length = z.cps.toList.length := by simp [Str.length]
theorem sok_append {a b : Str} (ha : SOk a) (hb : SOk b) : SOk (a ++ b) := by
  intro c hc
  rw [show (a ++ b).cps.toList = a.cps.toList ++ b.cps.toList from TL.tl_append a b] at hc
  rcases List.mem_append.mp hc with h | h
  · exact ha c h
  · exact hb c h
theorem len_append (a b : Str) : (a ++ b).length = a.length + b.length := by
  rw [len_tl, len_tl, len_tl, show (a ++ b).cps.toList = a.cps.toList ++ b.cps.toList from TL.tl_append a b, List.length_append]
theorem sok_rev {a : Str} (ha : SOk a) : SOk (revS a) := by
  intro c hc
  refine ha c ?_
  simpa [revS] using hc
/-- signs: texts of one code -/
def Sg (z : Str) : Prop := z.length = 1 ∧ SOk z
theorem join_sg {zs : List Str} (h : ∀ z ∈ zs, Sg z) : (Txt.join "" zs).length = zs.length ∧ SOk (Txt.join "" zs) := by
  rw [len_tl]
  have e := join0 zs
  constructor
  · rw [e]
    clear e
    induction zs with
    | nil => rfl
    | cons z r ih =>
      rw [List.map_cons, List.flatten_cons, List.length_append, ih fun y hy => h y (List.mem_cons_of_mem _ hy), ← len_tl, (h z List.mem_cons_self).1, List.length_cons]
      omega
  · intro c hc
    rw [e] at hc
    obtain ⟨l, hl, hc⟩ := List.mem_flatten.mp hc
    obtain ⟨z, hz, rfl⟩ := List.mem_map.mp hl
    exact (h z hz).2 c hc
theorem sg_one {c : Nat} {z : Str} (h : SOk z) (hc : c ∈ z.cps.toList) : Sg ⟨#[c]⟩ := ⟨rfl, fun d hd => by
  have : d = c := by simpa using hd
  rw [this]
  exact h c hc⟩
theorem atI_some {α : Type} {xs : List α} {i : Int} (h0 : 0 ≤ i) (h1 : i < xs.length) : ∃ v, atI xs i = some v ∧ v ∈ xs := by
  obtain ⟨j, rfl⟩ : ∃ j : Nat, i = (j : Int) := ⟨i.toNat, by omega⟩
  have hj : j < xs.length := by omega
  exact ⟨xs[j], atI_nat (List.getElem?_eq_getElem hj), List.getElem_mem _⟩
theorem ixN_some {n : Nat} {i : Int} (h0 : 0 ≤ i) (h1 : i < n) : ∃ j, ixN n i = some j ∧ j < n := by
  obtain ⟨j, rfl⟩ : ∃ j : Nat, i = (j : Int) := ⟨i.toNat, by omega⟩
  exact ⟨j, Evl.ixN_nat (by omega), by omega⟩
end Lw

namespace Lw
open PySem PySem.Spec PyProof.Rows L2
/-! ### names -/
def LET : Str := "abcdefghijklmnopqrstuvwxyz"
def DIG : Str := "0123456789"
/-- whether a code is a letter's, a figure's -/
def isL (c : Nat) : Bool := decide (c ∈ LET.cps.toList)
def isD (c : Nat) : Bool := decide (c ∈ DIG.cps.toList)
/-- the names -/
def vnL : List Nat → Bool
  | [] => false
  | c :: r => decide ((c :: r).length ≤ 6) && isL c && (c :: r).all fun d => isL d || isD d
theorem vnL_cons (c : Nat) (r : List Nat) : vnL (c :: r) = (decide ((c :: r).length ≤ 6) && isL c && (c :: r).all fun d => isL d || isD d) := rfl
def vn (z : Str) : Bool := vnL z.cps.toList
theorem cps_at {z : Str} {i c : Nat} (h : z.cps[i]? = some c) : z.cps.toList[i]? = some c := by simpa using h
theorem take_all {α : Type} {xs : List α} {p : α → Bool} {i : Nat} {c : α} (h : xs[i]? = some c) : (xs.take (i + 1)).all p = ((xs.take i).all p && p c) := by
  rw [List.take_add_one, h]
  simp
theorem take_map {α β : Type} {xs : List α} {f : α → β} {i : Nat} {c : α} (h : xs[i]? = some c) : (xs.take (i + 1)).map f = (xs.take i).map f ++ [f c] := by
  rw [List.take_add_one, h, List.map_append]
  rfl
def sp_vn : Sp := fun vs H Q _ => ∃ (z : Str), vs = [.str z] ∧ z.length ≤ 1000 ∧ SOk z ∧ ∀ H', Same H H' → Q (.bl (vn z)) H'
/-- the letters and the figures by their codes -/
theorem let_codes : LET.cps.toList = (List.range 26).map (97 + ·) := by decide +kernel
theorem dig_codes : DIG.cps.toList = (List.range 10).map (48 + ·) := by decide +kernel
theorem isL_iff {c : Nat} : isL c = true ↔ 97 ≤ c ∧ c < 123 := by
  unfold isL
  rw [decide_eq_true_iff, let_codes, List.mem_map]
  constructor
  · rintro ⟨i, hi, rfl⟩
    have := List.mem_range.mp hi
    omega
  · rintro ⟨h1, h2⟩
    exact ⟨c - 97, List.mem_range.mpr (by omega), by omega⟩
theorem isD_iff {c : Nat} : isD c = true ↔ 48 ≤ c ∧ c < 58 := by
  unfold isD
  rw [decide_eq_true_iff, dig_codes, List.mem_map]
  constructor
  · rintro ⟨i, hi, rfl⟩
    have := List.mem_range.mp hi
    omega
  · rintro ⟨h1, h2⟩
    exact ⟨c - 48, List.mem_range.mpr (by omega), by omega⟩
/-- a code that a name may have -/
def isN (c : Nat) : Bool := isL c || isD c
theorem isN_lt {c : Nat} (h : isN c = true) : c < 123 := by
  unfold isN at h
  rw [Bool.or_eq_true, isL_iff, isD_iff] at h
  omega
theorem vnL_of {c : Nat} {r : List Nat} (hl : r.length ≤ 5) (hc : isL c = true) (hr : ∀ d ∈ r, isN d = true) : vnL (c :: r) = true := by
  rw [vnL_cons, hc, decide_eq_true (by simp only [List.length_cons]; omega), Bool.true_and, Bool.true_and, List.all_eq_true]
  intro d hd
  rcases List.mem_cons.mp hd with rfl | hd
  · rw [hc]
    rfl
  · exact hr d hd
theorem vn_parts {z : Str} (h : vn z = true) : 1 ≤ z.length ∧ z.length ≤ 6 ∧ ∀ c ∈ z.cps.toList, isN c = true := by
  unfold vn at h
  rw [len_tl]
  cases hc : z.cps.toList with
  | nil =>
    rw [hc] at h
    cases h
  | cons c r =>
    rw [hc, vnL_cons, Bool.and_eq_true, Bool.and_eq_true, decide_eq_true_iff, List.all_eq_true] at h
    exact ⟨by simp, h.1.1, h.2⟩
theorem vn_sok {z : Str} (h : vn z = true) : SOk z := fun c hc => by
  have := isN_lt ((vn_parts h).2.2 c hc)
  omega
end Lw

namespace Lw
open PySem PySem.Spec PyProof.Rows L2
def sp_draw : Sp := fun vs H Q _ => ∃ (st : Addr) (size : Int) (n : Nat), vs = [.ref st, .int size] ∧ DS H st n ∧ n ≤ 1000000000 ∧ 0 < size ∧ size < 1000000000 ∧
  ∀ (d : Int) (H' : Hp), 0 ≤ d → d < size → DS H' st (n + 1) → Kp st H H' → Q (.int d) H'
def sp_start (K : PySem.W.Frag) : Sp := fun vs H Q _ => ∃ (a : Addr) (ns : List Int), vs = [.ref a] ∧ SqL K H a (ns.map V.int) ∧ ns.length ≤ 63 ∧
  ∀ (st : Addr) (H' : Hp), DS H' st 0 → (∀ b o, H b = some o → Ap H' st b o) → Q (.ref st) H'
theorem DS.ex {H H' : Hp} {st : Addr} {n : Nat} (D : DS H st n) (e : Evl.Ex H H') : DS H' st n := by
  obtain ⟨q, r, bs, cs, c, d, h1, h2, h3, h4⟩ := D
  exact ⟨q, r, bs, cs, c, ⟨e _ _ d.st', e _ _ d.q', e _ _ d.r', d.qr, d.qs, d.rs⟩, h1, h2, h3, h4⟩
theorem DS.exK {H H' : Hp} {st : Addr} {n : Nat} (D : DS H st n) (e : Evl.Ex H H') : Kp st H H' := by
  obtain ⟨q, r, bs, cs, c, d, h1, h2, h3, h4⟩ := D
  exact Kp.dx d ⟨e _ _ d.st', e _ _ d.q', e _ _ d.r', d.qr, d.qs, d.rs⟩ fun b o x _ y z => ⟨e _ _ x, y, z⟩
/-- a list made anew since H1, stored to, keeps what stood apart in H1 -/
theorem Kp.put {H1 H : Hp} {st b : Addr} {n : Nat} {o u : HO} (k : Kp st H1 H) (hb : H1 b = none) (D : DS H st n) (a : Ap H st b o) : Kp st H1 (upd H b u) := fun c v h => Ap.put D a (k c v h) (ne_of_none h.1 hb)
theorem DS.freshB {H : Hp} {st p : Addr} {n : Nat} {o : HO} (D : DS H st n) (h : Ap H st p o) {H' : Hp} (e : Evl.Ex H H') : Ap H' st p o := D.exK e _ _ h
/-- [signs[draw(size)] for k in range(n)] -/
theorem lc_signs {st D : Addr} {m n j i0 iz : Nat} {size lo : Int} {z : Str} {σ : L2.St} {vs : List Nat} {Qd : Hp → Prop} {H1 : Hp} (hst : ∀ x, ((wipe σ vs).set j (some x))[i0]? = some (some (.ref st))) (hz : ∀ x, ((wipe σ vs).set j (some x))[iz]? = some (some (.str z)))
    (hw : ∀ x, wipe ((wipe σ vs).set j (some x)) vs = wipe σ vs) (hs0 : 0 < size) (hs1 : size ≤ z.length) (zl : z.length ≤ 1000) (hm : m + n ≤ 1000000000) (hn : n ≤ 1000) (D0 : DS H1 st m) (hD : H1 D = none)
    (hd : ∀ (H' : Hp) (zs : List Str), DS H' st (m + n) → Kp st H1 H' → Ap H' st D (.lst (zs.map V.str)) → zs.length = n → (∀ y ∈ zs, ∃ c k : Nat, y = ⟨#[c]⟩ ∧ (k : Int) < size ∧ z.cps.toList[k]? = some c) → Qd H') :
    ∃ W : Nat → Nat → Hp → Prop, (∃ m, W 0 m (upd H1 D (.lst []))) ∧ ∀ i m H, W i m H →
      ((Itr lo n).stop i H ∧ Qd H) ∨ ((Itr lo n).go i H ∧ ∃ Nx : Hp → Prop, (∀ H', Nx H' → ∃ m', m' < m ∧ W (i + 1) m' H') ∧ ∀ x H', (Itr lo n).yld i H x H' → (gName j) x (wipe σ vs) H' fun σ2 H2 => wipe σ2 vs = wipe σ vs ∧ tYes σ2 H2 fun b H3 =>
        if b = true then (tOp rIxS (tVar iz) (tCall sp_draw [] E0 (tCons (tVar i0) (tCons (tC (.int size)) tNil)))) σ2 H3 fun y H4 => ∃ acc, H4 D = some (.lst acc) ∧ acc.length < sizeLine ∧ Nx (upd H4 D (.lst (acc ++ [y]))) else Nx H3) := by
  have zl2 : z.length ≤ sizeLine := Nat.le_of_lt (small1000 zl)
  refine lc_range (lo := lo) (n := n) (fun i H' => ∃ zs : List Str, DS H' st (m + i) ∧ Kp st H1 H' ∧ Ap H' st D (.lst (zs.map V.str)) ∧ zs.length = i ∧ ∀ y ∈ zs, ∃ c k : Nat, y = ⟨#[c]⟩ ∧ (k : Int) < size ∧ z.cps.toList[k]? = some c) ⟨[], D0.new hD, D0.newK hD, D0.fresh hD, rfl, fun _ h => by simp at h⟩ (fun i H' hi ⟨zs, DD, kp, ap, hl, hy⟩ => ?_) (fun H' ⟨zs, DD, kp, ap, hl, hy⟩ => hd H' zs DD kp ap hl hy)
  refine ⟨hw _, .str z, hz _, .ref st, hst _, st, size, m + i, rfl, DD, by omega, hs0, by omega, fun d H2 d0 d1 D' kp2 => ?_⟩
  obtain ⟨k, rfl⟩ : ∃ k : Nat, d = (k : Int) := ⟨d.toNat, by omega⟩
  have hk : k < z.cps.toList.length := by
    rw [← len_tl]
    omega
  have ap' := kp2 _ _ ap
  refine ⟨z, (k : Int), z.cps.toList[k], rfl, rfl, zl2, atI_nat (List.getElem?_eq_getElem hk), _, ap'.1, ?_, zs ++ [⟨#[z.cps.toList[k]]⟩], D'.put ap', (kp.trans kp2).put hD D' ap', ?_, ?_, ?_⟩
  · rw [List.length_map]
    exact small1000 (by omega)
  · rw [List.map_append]
    exact D'.putA ap'
  · rw [List.length_append, hl]
    rfl
  · intro y hy'
    rcases List.mem_append.mp hy' with h | h
    · exact hy y h
    · rw [List.mem_singleton.mp h]
      exact ⟨_, k, rfl, d1, List.getElem?_eq_getElem hk⟩
/-- the letters, then the figures -/
def SG36 : Str := "abcdefghijklmnopqrstuvwxyz0123456789"
theorem sg36_codes : SG36.cps.toList = (List.range 26).map (97 + ·) ++ (List.range 10).map (48 + ·) := by decide +kernel
theorem sg36_len : SG36.length = 36 := by decide +kernel
theorem sg36_at {k c : Nat} (h : SG36.cps.toList[k]? = some c) : isN c = true ∧ (k < 26 → c = 97 + k ∧ isL c = true) := by
  rw [sg36_codes] at h
  by_cases hk : k < 26
  · rw [List.getElem?_append_left (by simpa using hk), List.getElem?_map, List.getElem?_range hk] at h
    have : c = 97 + k := (Option.some.inj h).symm
    have hl : isL c = true := isL_iff.mpr (by omega)
    exact ⟨by unfold isN; rw [hl]; rfl, fun _ => ⟨this, hl⟩⟩
  · have h2 : k - 26 < 10 := by
      have := (List.getElem?_eq_some_iff.mp h).1
      simp at this
      omega
    rw [List.getElem?_append_right (by simpa using hk), List.getElem?_map, List.length_map, List.length_range, List.getElem?_range h2] at h
    have : c = 48 + (k - 26) := (Option.some.inj h).symm
    have hd : isD c = true := isD_iff.mpr (by omega)
    exact ⟨by unfold isN; rw [hd]; exact Bool.or_true _, fun h => absurd h hk⟩
/-- figures of small numbers -/
theorem num_codes : ∀ i : Nat, i < 100 → (∀ c ∈ (Str.ofString (toString (i : Int))).cps.toList, isD c = true) ∧ (Str.ofString (toString (i : Int))).cps.toList.length ≤ 2 := by
  have : ((List.range 100).all fun i => ((Str.ofString (toString (i : Int))).cps.toList.all isD) && decide ((Str.ofString (toString (i : Int))).cps.toList.length ≤ 2)) = true := by decide +kernel
  intro i hi
  have h := List.all_eq_true.mp this i (List.mem_range.mpr hi)
  rw [Bool.and_eq_true, List.all_eq_true, decide_eq_true_iff] at h
  exact h
theorem num_inj : ∀ i j : Nat, i < 100 → j < 100 → (Str.ofString (toString (i : Int))).cps.toList = (Str.ofString (toString (j : Int))).cps.toList → i = j := by
  have : ((List.range 100).all fun i => (List.range 100).all fun j => decide ((Str.ofString (toString (i : Int))).cps.toList = (Str.ofString (toString (j : Int))).cps.toList → i = j)) = true := by decide +kernel
  intro i j hi hj
  have h := List.all_eq_true.mp (List.all_eq_true.mp this i (List.mem_range.mpr hi)) j (List.mem_range.mpr hj)
  exact of_decide_eq_true h
theorem app_codes (a b : Str) : (a ++ b).cps.toList = a.cps.toList ++ b.cps.toList := TL.tl_append a b
theorem str_ext {a b : Str} (h : a.cps.toList = b.cps.toList) : a = b := TL.ext_tl h
theorem vn_of {z : Str} {c : Nat} {r : List Nat} (e : z.cps.toList = c :: r) (hl : r.length ≤ 5) (hc : isL c = true) (hr : ∀ d ∈ r, isN d = true) : vn z = true := by
  unfold vn
  rw [e]
  exact vnL_of hl hc hr
/-- a row of n different names by its turns -/
theorem row_names {n : Nat} {f : Nat → Str} (hv : ∀ k, k < n → vn (f k) = true) (hi : ∀ j k, j < k → k < n → f j ≠ f k) : ((List.range n).map f).length = n ∧ (∀ z ∈ (List.range n).map f, vn z = true) ∧ ((List.range n).map f).Nodup := by
  refine ⟨by simp, fun z hz => ?_, ?_⟩
  · obtain ⟨k, hk, rfl⟩ := List.mem_map.mp hz
    exact hv k (List.mem_range.mp hk)
  · rw [List.nodup_iff_pairwise_ne, List.pairwise_map]
    refine List.Pairwise.imp_of_mem ?_ (List.pairwise_lt_range)
    intro a b ha hb hab
    exact hi a b hab (List.mem_range.mp hb)
end Lw

namespace Lw
open PySem PySem.Spec PyProof.Rows L2 Evl
theorem cutS_to (z : Str) (k : Nat) : (cutS z none (some (k : Int))).cps.toList = z.cps.toList.take k := by
  show (z.cps.toList.drop (HT.sIx z.length 0 none)).take (HT.sIx z.length z.length (some (k : Int)) - HT.sIx z.length 0 none) = _
  rw [HT.sIx_none, HT.sIx_nat, List.drop_zero, Nat.sub_zero, len_tl, ← List.take_take, List.take_length]
theorem cutS_from (z : Str) (k : Nat) : (cutS z (some (k : Int)) none).cps.toList = z.cps.toList.drop k := by
  show (z.cps.toList.drop (HT.sIx z.length 0 (some (k : Int)))).take (HT.sIx z.length z.length none - HT.sIx z.length 0 (some (k : Int))) = _
  rw [HT.sIx_none, HT.sIx_nat, len_tl]
  by_cases h : k ≤ z.cps.toList.length
  · rw [Nat.min_eq_left h]
    exact List.take_of_length_le (by rw [List.length_drop]; exact Nat.le_refl _)
  · rw [Nat.min_eq_right (by omega), List.drop_of_length_le (Nat.le_refl _), List.drop_of_length_le (by omega)]
    simp
section
variable {K : PySem.W.Frag} {σ : L2.St} {H H' : Hp} {ta tb tc te tl : TE} {t u : TT} {x y z v : V} {r r' : R2}
theorem rc_strI {i : Int} (h : i.natAbs.log2 < 1920) : RC (fun xs H Q => ∃ i, xs = [.int i] ∧ i.natAbs.log2 < 1920 ∧ Q (.str (toString i)) H) [.int i] H (.str (toString i)) := fun H1 _ _ q => ⟨i, rfl, h, q H1 (Ex.refl H1)⟩
theorem ev_slS {tl th : TO} {z : Str} {lo hi : Option Int} (h : Ev te σ H (.str z)) (h1 : EvO tl σ H lo) (h2 : EvO th σ H hi) (hz : z.length ≤ sizeLine) : Ev (tSl rSlS te tl th) σ H (.str (cutS z lo hi)) := fun H1 e _ q =>
  h H1 e _ fun H2 e2 => h1 H2 (e.trans e2) _ fun H3 e3 => h2 H3 ((e.trans e2).trans e3) _ fun H4 e4 => ⟨z, rfl, hz, q H4 ((e2.trans e3).trans e4)⟩
/-- an item of a new list -/
theorem ev_ixNew {xs : List V} {i : Int} (ha : EvL ta σ H xs) (hb : Ev tb σ H (.int i)) (h : atI xs i = some v) : Ev (tOp (rIxL K) ta tb) σ H v :=
  ev_opL1 ha (fun _ e => hb.mono e) fun p H1 hp _ => rv_ixL (.inl (.inl hp)) h
end
/-- [elt for k in range(n)], without a test -/
theorem given_all (n : Nat) (v : Nat → V) : given n (fun _ => true) v = (List.range n).map v := by
  unfold given
  rw [List.filter_eq_self.mpr fun _ _ => rfl]
theorem stem_ok {zs : List Str} (h : ∀ y ∈ zs, ∃ c k : Nat, y = ⟨#[c]⟩ ∧ (k : Int) < 36 ∧ SG36.cps.toList[k]? = some c) : (Txt.join "" zs).cps.toList.length = zs.length ∧ (∀ c ∈ (Txt.join "" zs).cps.toList, isN c = true) ∧ (zs.map (·.length)).sum = zs.length := by
  rw [join0]
  induction zs with
  | nil => exact ⟨rfl, fun _ h => by simp at h, rfl⟩
  | cons y r ih =>
    obtain ⟨i1, i2, i3⟩ := ih fun x hx => h x (List.mem_cons_of_mem _ hx)
    obtain ⟨c, k, rfl, hk, hc⟩ := h y List.mem_cons_self
    refine ⟨?_, fun d hd => ?_, ?_⟩
    · rw [List.map_cons, List.flatten_cons, List.length_append, i1, List.length_cons]
      show 1 + r.length = r.length + 1
      omega
    · rw [List.map_cons, List.flatten_cons, List.mem_append] at hd
      rcases hd with hd | hd
      · have : d = c := by simpa using hd
        rw [this]
        exact (sg36_at hc).1
      · exact i2 d hd
    · rw [List.map_cons, List.sum_cons, i3, List.length_cons]
      show 1 + r.length = r.length + 1
      omega
/-- what a pure piece has made stands apart -/
theorem DS.exNew {H H' : Hp} {st p : Addr} {n : Nat} {o : HO} (D : DS H st n) (e : Ex H H') (h : H p = none) (h' : H' p = some o) : Ap H' st p o := by
  obtain ⟨q, r, bs, cs, c, d, h1, h2, h3, h4⟩ := D
  have d' : DX H' st q r bs cs c := ⟨e _ _ d.st', e _ _ d.q', e _ _ d.r', d.qr, d.qs, d.rs⟩
  exact (ap_iff d').mpr ⟨h', (ne_of_none d.st' h).symm, (ne_of_none d.q' h).symm, (ne_of_none d.r' h).symm⟩
def sp_names : Sp := fun vs H Q _ => ∃ (st : Addr) (count : Int) (n : Nat), vs = [.ref st, .int count] ∧ DS H st n ∧ n ≤ 900000000 ∧ 0 ≤ count ∧ count ≤ 9 ∧
  ∀ (p : Addr) (ws : List Str) (H' : Hp), DS H' st (n + 20) → Kp st H H' → (∀ b o, Ap H st b o → b ≠ p) → Ap H' st p (.lst (ws.map V.str)) → ws.length = count.toNat → (∀ z ∈ ws, vn z = true) → ws.Nodup → Q (.ref p) H'
end Lw

namespace Lw
open PySem PySem.Spec PyProof.Rows L2
/-! ### several except clauses, each with a name -/
abbrev Suite := Addr → Value → Option Addr → TS
/-- the suite's ends: the clause's name is gone behind it -/
def gone (i : Nat) (D : Ends) : Ends := { nx := fun σ' H' => D.nx (σ'.set i none) H', rt := D.rt, bk := fun σ' H' => D.bk (σ'.set i none) H', ct := fun σ' H' => D.ct (σ'.set i none) H' }
def wNamed (K : PySem.W.Frag) (Wout : WX) (D : Ends) : List (Value × Nat × Suite) → WX
  | [] => Wout
  | (c, i, ts) :: r => fun cls d σ H => ∃ b, PySem.W.exmOne K cls c = some b ∧ (b = true → ∀ a, H a = none → ts a cls d (gone i D) (σ.set i (some (.ref a))) H) ∧ (b = false → wNamed K Wout D r cls d σ H)
inductive NamedOk (X : Cx) : List ExceptHandler → List (Value × Nat × Suite) → Prop
  | nil : NamedOk X [] []
  | cons {x n : Str} {c : Value} {i : Nat} {ts : Suite} {b₀ : Stmt} {suite : List Stmt} {np pos' : Pos} {hds : List ExceptHandler} {l : List (Value × Nat × Suite)} (hc : Names X x c) (hi : X.N[i]? = some n) (hl : X.env.kindOf n = some .local)
      (hsu : ∀ (a : Addr) (oe : Obj) (cls : Value) (d : Option Addr) (pn : List (Addr × Obj)), Zc cls d oe → (∃ vs, oe.data = .fields vs) → PSs (X.suite a ((a, oe) :: pn)) (b₀ :: suite) (ts a cls d)) (r : NamedOk X hds l) :
      NamedOk X (.ExceptHandler (some (.Name x np)) (some n) (b₀ :: suite) pos' :: hds) ((c, i, ts) :: l)
section
variable {X : Cx} {body : List Stmt} {h₀ : ExceptHandler} {hds : List ExceptHandler} {l : List (Value × Nat × Suite)} {pos : Pos} {tb : WX → TS} {Wout : WX}
theorem ps_try_named (hst : X.stack = X.env :: X.outer) (hfm : X.env.frame = some X.env.locals) (hN : X.N.Nodup) (tk : Takes X Wout)
    (hbody : ∀ (W : WX) (pn : List (Addr × Obj)) (xe : Value → Shared → Prop), Takes (X.tr pn xe) W → PassesOwn (model X.prog X.w) X.A X.env xe → PSs (X.tr pn xe) body (tb W))
    (hh : NamedOk X (h₀ :: hds) l) : PS X (.Try body (h₀ :: hds) [] [] pos) (fun D σ H => tb (wNamed X.K Wout D l) D σ H) := by
  refine ⟨fun pins s σ H D I h => ?_⟩
  have ok := I.ok
  have frm : X.A.frames = some (X.env :: X.outer) := by
    rw [ok.frames, hst]
  refine wpAny_Try_except ?_
  have caught : Takes (X.tr (X.pn ++ pins) fun e s₁ => wpAny (model X.prog X.w) X.A (noteFrame e X.env) (fun _ s₂ => wpAny (model X.prog X.w) X.A (setFlight e none) (fun _ s₃ => wpAny (model X.prog X.w) X.A (handleBy e X.env (h₀ :: hds)) (SP X pins D) X.xe s₃) X.xe s₂) X.xe s₁) (wNamed X.K Wout D l) := by
    intro u s' xx
    obtain ⟨a, B, sI, pins', σ', H', cls, d, rfl, J', nb, up, sky, na, os, ag, w⟩ := xx
    have J : Inv X pins σ' H' sI := J'.ofTry ok
    have sky2 : Sky B (X.env :: X.outer) a (Zc cls d) X.env.locals s'.heap := by
      rw [← hst]
      exact sky
    show wpAny (model X.prog X.w) X.A (noteFrame (.ref a) X.env) _ _ _
    refine Sky.land Zc.steady frm hfm sky2 fun hA flA upA => ?_
    have JA : Inv X pins σ' H' { s' with heap := hA } := J.landed nb flA.1 (up.trans upA) os ag
    obtain ⟨oA, vsA, geA, zA, dA⟩ := flA.there
    have off : a ∉ frs (X.env :: X.outer) := fun hm => by
      obtain ⟨_, o', e', nof⟩ := flA.2.2.1.mem hm
      rw [geA] at e'
      cases e'
      exact nof _ dA
    have offL : a ≠ X.env.locals := fun z => off (List.mem_filterMap.mpr ⟨X.env, List.mem_cons_self, by rw [hfm, z]⟩)
    have offF : a ∉ X.fs := fun hm => by
      obtain ⟨e, he, q⟩ := List.mem_filterMap.mp hm
      exact off (List.mem_filterMap.mpr ⟨e, List.mem_cons_of_mem _ he, q⟩)
    have SA := JA.suite geA dA na offL offF
    -- one clause after the other
    have go : ∀ {hs : List ExceptHandler} {m : List (Value × Nat × Suite)}, NamedOk X hs m → wNamed X.K Wout D m cls d σ' H' → wpAny (model X.prog X.w) X.A (handleBy (.ref a) X.env hs) (SP X pins D) X.xe { s' with heap := hA } := by
      intro hs m hk
      induction hk with
      | nil =>
        intro w
        obtain ⟨_, _, _, oe, vs, T, _, _, he, _, hd, h1, _⟩ := id flA
        refine wpAny_handleBy_nil ?_
        unfold PySem.passOn
        refine wpAny_bind (wpAny_field he hd h1 ?_)
        rw [if_neg (show ¬ ((Value.ref T == Value.none) = true) from by simp)]
        have on : wpAny (model X.prog X.w) X.A (setFlight (.ref a) X.env.frame) (fun _ s4 => wpAny (model X.prog X.w) X.A (throw (.ref a) : Sem Flow) (SP X pins D) X.xe s4) X.xe { s' with heap := hA } := by
          rw [hfm]
          refine HandSPX.setFlight_upZ flA fun hB flB upB => wpAny_throw (tk _ _ ?_)
          exact ⟨a, B, sI, pins, σ', H', cls, d, rfl, J, nb, (up.trans upA).trans upB, .inr (.inr (by rw [hst]; exact flB)), na, os, ag, w⟩
        first
          | exact wpAny_bind (wpAny_pure (wpAny_bind on))
          | exact wpAny_bind on
      | @cons x n c i ts b₀ suite np pos' hs2 m2 hc hi hl hsu r ih =>
        intro w
        obtain ⟨b, hb1, yes, no⟩ := w
        refine wpAny_handleBy_cons (codeAny_handlers_test ?_) (by intro q; cases q)
        have isCls : PySem.W.Looks (model X.prog X.w) hA (typeOf (.ref a)) cls := fun A Q E s k q => wpAny_typeOf_ref (k _ _ geA) (by rw [zA.1]; exact q)
        have meets := PySem.W.exm_one (M := model X.prog X.w) JA.kIn isCls hb1
        have named : ∀ {Q : Value → Shared → Prop} {E : Value → Shared → Prop}, Q c { s' with heap := hA } → wpAny (model X.prog X.w) (X.A.mark (some (.ref a))) (eval (.Name x np) X.env) Q E { s' with heap := hA } := fun {Q E} q => by
          obtain ⟨hg, hdb, hm | ⟨hm, hv, hnn⟩⟩ := hc
          · exact ld_glob (X := X.suite a ((a, oA) :: (X.pn ++ pins))) SA hg hm q hdb
          · exact ld_blt (X := X.suite a ((a, oA) :: (X.pn ++ pins))) SA hg hm hv q hnn hdb
        refine named (meets.here ?_)
        cases b with
        | false =>
          show wpAny _ X.A (handleBy (.ref a) X.env hs2) _ _ _
          exact ih (no rfl)
        | true =>
          refine codeAny_handlers_suite_as ?_
          refine HandSPX.lands_againZ flA fun hB flB upB => ?_
          have JB : Inv X pins σ' H' { s' with heap := hB } := J.landed nb flB.1 ((up.trans upA).trans upB) os ag
          obtain ⟨oB, vsB, geB, zB, dB⟩ := flB.there
          have SB := JB.suite geB dB na offL offF
          refine store_ok (X := X.suite a ((a, oB) :: (X.pn ++ pins))) (v := .ref a) SB hN hi (.inl hl) rfl (fun s5 S5 => ?_) (.inr hl)
          refine wpAny_mono ((hsu a oB cls d (X.pn ++ pins) zB ⟨_, dB⟩).run [] s5 _ H' _ S5 (yes rfl a na)) (fun f s6 hsp => ?_) (fun _ _ z => False.elim z)
          have fin : ∀ {σ6 : L2.St} {H6 : Hp} {Q : Shared → Prop}, Inv (X.suite a ((a, oB) :: (X.pn ++ pins))) [] σ6 H6 s6 → (∀ s7, Inv X pins (σ6.set i none) H6 s7 → Q s7) →
              wpAny (model X.prog X.w) X.A (do bindName X.env n .none; unbindBehindTheSuite X.env n pos') (fun _ s7 => Q s7) X.xe s6 := fun {σ6 H6 Q} S6 hq => gone_ok (S6.unsuite ok) hN hi hl hq
          cases f with
          | ret u =>
            obtain ⟨v6, σ6, H6, S6, r6, q6⟩ := hsp
            exact fin S6 fun s7 J7 => ⟨_, _, _, J7, r6, q6⟩
          | next =>
            obtain ⟨σ6, H6, S6, q6⟩ := hsp
            exact fin S6 fun s7 J7 => ⟨_, _, J7, q6⟩
          | brk =>
            obtain ⟨σ6, H6, S6, q6⟩ := hsp
            exact fin S6 fun s7 J7 => ⟨_, _, J7, q6⟩
          | cont =>
            obtain ⟨σ6, H6, S6, q6⟩ := hsp
            exact fin S6 fun s7 J7 => ⟨_, _, J7, q6⟩
    exact go hh w
  refine wpAny_mono ((hbody (wNamed X.K Wout D l) (X.pn ++ pins) _ caught PassesOwn.looking).run [] s σ H D (I.toTry _) h) (fun f s1 hsp => ?_) (fun e s1 he => he)
  cases f with
  | ret u =>
    obtain ⟨v, σ', H', J', r, q⟩ := hsp
    exact ⟨v, σ', H', J'.ofTry ok, r, q⟩
  | next =>
    obtain ⟨σ', H', J', q⟩ := hsp
    exact wpAny_execs_nil ⟨σ', H', J'.ofTry ok, q⟩
  | brk =>
    obtain ⟨σ', H', J', q⟩ := hsp
    exact ⟨σ', H', J'.ofTry ok, q⟩
  | cont =>
    obtain ⟨σ', H', J', q⟩ := hsp
    exact ⟨σ', H', J'.ofTry ok, q⟩
end
/-! ### isinstance of a caught error that has a dict -/
structure IsC (K : PySem.W.Frag) (D : Addr) : Prop where
  cl : (PySem.W.clsIn K D).isSome = true
  ga : PySem.W.findIn K (.ref D) "__getattribute__" = some (some (.builtin "BaseException.__getattribute__"))
  gt : ∃ gt, PySem.W.findIn K (.ref D) "__getattr__" = some gt
  sb : PySem.W.subIn K (.ref D) (.type "BaseException") = some true
  ca : PySem.W.findIn K (.ref D) "__class__" = some (some (.builtin "object.__class__"))
  sn : PySem.W.specialIn K (.builtin "object.__class__") "__get__" = some (some (.builtin "getset_descriptor.__get__"))
  tk : PySem.W.takesIn K (.builtin "object.__class__") = some true
  mo : PySem.W.mroIn K D (.type "object") = some true
/-- isinstance(e, c): e the error that the suite holds, its class at D, its own dict at dd -/
def rIsX (K : PySem.W.Frag) (a : Addr) (cls : Value) (d : Option Addr) : List V → Hp → VK → Prop := fun xs H Q => ∃ (D : Addr) (c : V) (cv : Value) (b : Bool) (dd : Addr) (fs : List (Str × V)), IsC K D ∧ cls = .ref D ∧ d = some dd ∧ H dd = some (.xd fs) ∧ xs = [.ref a, c] ∧ ClsV c cv ∧ PySem.W.kitOne K (.ref D) cv = some b ∧ Q (.bl b) H
theorem call_isX {X : Cx} {a : Addr} {cls : Value} {d : Option Addr} {oe : Obj} {pn : List (Addr × Obj)} (hz : Zc cls d oe) (hf : ∃ vs, oe.data = .fields vs) : CallR (X.suite a ((a, oe) :: pn)) (.builtin "isinstance") (rIsX X.K a cls d) := by
  intro pins s σ H xs us Q I r h
  obtain ⟨D, c, cv, b, dd, fs, C, rfl, rfl, hdd, rfl, hcv, e, q⟩ := h
  cases r with
  | cons rx rr =>
    cases rr with
    | cons rt rr =>
      cases rr
      cases rx
      have ec := hcv.eq rt
      subst ec
      obtain ⟨hget, _⟩ := I.pin (a, oe) (List.mem_append.mpr (.inl List.mem_cons_self))
      obtain ⟨vs, hv⟩ := hf
      have hx : ObjOk X.prog X.w H s.heap dd (.xd fs) := I.hok dd _ hdd
      obtain ⟨mA, hns, _⟩ := hx
      obtain ⟨od, ho, _⟩ := lookIn_ns hns
      obtain ⟨gt, hgt⟩ := C.gt
      have J : PySem.W.InstAt s.heap a oe D (some od) := ⟨hget, hz.1, by unfold PySem.W.notCls; rw [hv] <;> rfl, by rw [hz.2]; exact ho⟩
      exact PySem.W.kia_one (PySem.W.kitx_exc C.cl C.ga hgt C.sb C.ca C.sn C.tk C.mo) I.kIn J e (by cases hcv <;> exact fun z => nomatch z) fun tk => ⟨.bl b, H, I.kept (t' := tk) fun _ _ z => z, rfl, q⟩
/-! ### an error of one field is made -/
/-- __init__(self, f): self.f = f -/
def sp_init1 (K : PySem.W.Frag) (C : Addr) (f : Str) : Sp := fun vs H Q _ => ∃ (a : Addr) (y : V), vs = [.ref a, y] ∧ H a = some (exo a C none) ∧ ∀ dx, H dx = none → dx ≠ a → Q .non (upd (upd H dx (exd dx [(f, y)])) a (exo a C (some dx)))
theorem mk1_at {K : PySem.W.Frag} {C : Addr} {f : Str} {y : V} {H1 : Hp} {Q : XK} (k : ∀ d, H1 d = none → Q (.ref C) (some d) (upd H1 d (.xd [(f, y)]))) : ([y] : List V).length ≤ 1000 ∧ ∀ a, H1 a = none → sp_init1 K C f (.ref a :: ([y] ++ [])) (upd H1 a (exo a C none))
      (fun v H2 => v = .non ∧ ∃ (d : Addr) (fs : List (Str × V)), H2 a = some (exo a C (some d)) ∧ H2 d = some (exd d fs) ∧ H1 d = none ∧ Q (.ref C) (some d) (upd (del H2 a) d (.xd fs))) (fun _ _ _ => False) := by
  refine ⟨by simp, fun a na => ⟨a, y, rfl, upd_same, fun dx ndx ne => ⟨rfl, dx, [(f, y)], upd_same, ?_, ?_, ?_⟩⟩⟩
  · rw [upd_ne ne, upd_same]
  · rw [upd_ne ne] at ndx
    exact ndx
  · rw [upd_ne ne] at ndx
    have e : upd (del (upd (upd (upd H1 a (exo a C none)) dx (exd dx [(f, y)])) a (exo a C (some dx))) a) dx (.xd [(f, y)]) = upd H1 dx (.xd [(f, y)]) := by
      funext b
      by_cases hb : b = dx
      · rw [hb, upd_same, upd_same]
      · rw [upd_ne hb, upd_ne hb]
        by_cases ha : b = a
        · rw [ha, del_same, na]
        · rw [del_ne ha, upd_ne ha, upd_ne hb, upd_ne ha]
    rw [e]
    exact k dx ndx
end Lw

namespace Lw
open PySem PySem.Spec PyProof.Rows L2
section
open PySem.W PySem.Calls
variable {prog : Program} {w : World} {A : Around} {E : Value → Shared → Prop} {s : Shared}
/-- a tuple's items are collected for sorted -/
theorem collect_tup {l : Addr} {vs : List Value} {Q : List Value → Shared → Prop} (hl : IsTup s.heap l vs.toArray) (hz : vs.length ≤ sizeLine)
    (h : Q vs { s with heap := (s.heap.push (seqObj "list" #[] 0)).update s.heap.objs.size (Obj.mapSeq (· ++ vs.toArray)) }) : wpAny (model prog w) A (collect (.ref l)) Q E s := by
  obtain ⟨o, ho, hc, n, hd⟩ := id hl
  have own : (s.heap.push (seqObj "list" #[] 0)).get? l = some o := Heap.get?_push_of_some _ ho
  have new : (s.heap.push (seqObj "list" #[] 0)).get? s.heap.objs.size = some (seqObj "list" #[] 0) := Heap.get?_push_size _ rfl
  unfold collect
  refine wpAny_bind (wpAny_runValue (codeAny_builtin entry_proto_collect' ?_))
  show wpAny _ _ (do again (.builtin "list.__iadd__" ⟨[← newList [], .ref l], []⟩)) _ _ s
  refine wpAny_bind (wpAny_newList (wpAny_pure ⟨Code.quiet_builtin _ (by decide +kernel), codeAny_builtin entry_list_iadd' ?_⟩))
  show wpAny _ _ (Builtin.List.listExtendWith (.ref s.heap.objs.size) (.ref l) (.ref s.heap.objs.size)) _ _ { s with heap := s.heap.push (seqObj "list" #[] 0) }
  unfold Builtin.List.listExtendWith
  refine wpAny_bind (wpAny_typeOf (T := "tuple") ⟨o, own, hc⟩ ?_)
  have isT : (Value.type "tuple" == Value.type "tuple") = true := rfl
  rw [if_pos (by rw [isT, Bool.or_true])]
  refine wpAny_bind (listItems_at own hd (wpAny_bind (listItems_at (xs := #[]) (n := 0) new rfl ?_)))
  rw [if_neg (by simp)]
  refine wpAny_bind (listUpdate_at (xs := #[]) (n := 0) new rfl (wpAny_pure ?_) (Nat.zero_le _) (by show (#[] ++ vs.toArray).size ≤ sizeLine + 1; simp only [Array.size_append, List.size_toArray, List.length_nil]; omega))
  refine wpAny_bind (wpAny_load (get?_update_seq new _) ?_)
  show wpAny _ _ (pure ((#[] : Array Value) ++ vs.toArray).toList) Q E _
  have e : ((#[] : Array Value) ++ vs.toArray).toList = vs := by simp
  rw [e]
  exact wpAny_pure h
/-- sorted(t), t a tuple: a new list, the sorted one -/
theorem sorted_tup {κ : PyProof.Rows.KeyKind} {l : Addr} {vs : List Value} {Q : Value → Shared → Prop} (hl : IsTup s.heap l vs.toArray) (hL : vs.length ≤ sizeLine) (S : SortsAt prog w A.in1.in1 { s with heap := sortingHeap (copyHeap s.heap vs) (s.heap.objs.size + 1) vs } κ vs)
    (h : Q (.ref (s.heap.objs.size + 1)) { s with heap := sortedAll s.heap vs (sortVals κ false vs vs).toArray }) : wpAny (model prog w) A (call (.builtin "sorted") [.ref l]) Q E s := by
  refine call_function_entry_kw kind_sorted plain_sorted entry_sorted (args_sorted1 _) ?_
  unfold Builtin.«sorted»
  refine wpAny_bind (m := checkCount "sorted" 1 1 _) (wpAny_pure (wpAny_bind (collect_tup hl hL (wpAny_bind (wpAny_newList ?_ hL)))))
  have hsz : ((s.heap.push (seqObj "list" #[] 0)).update s.heap.objs.size (Obj.mapSeq (· ++ vs.toArray))).objs.size = s.heap.objs.size + 1 := by
    rw [Heap.size_update, size_push']
  show wpAny _ _ _ _ _ { s with heap := copyHeap s.heap vs }
  rw [hsz]
  refine wpAny_bind (wpAny_holding (wpAny_call_entry_kw slot_list_sort ⟨_, copyHeap_at s.heap vs, rfl⟩ entry_list_sort ?_ (args_list_sort _)))
  exact list_sort_vals (s := { s with heap := copyHeap s.heap vs }) (copyHeap_at s.heap vs) S hL ⟨.none, rfl, wpAny_pure ⟨_, rfl, h⟩⟩
theorem sorted_dataT {β : Type} {vs : List Value} {bs : List β} {enc : β → PyData} {R : Value → β → Prop} {l : Addr} {Q : Value → Shared → Prop} (hl : IsTup s.heap l vs.toArray) (e : EachIs R vs bs) (er : EachIs (fun v b => ∃ as, Reads s.heap v (enc b) as) vs bs) (hal : AllAlike (bs.map enc)) (hk : Sortable (bs.map enc)) (hL : bs.length ≤ sizeLine)
    (hu : ∀ b, b ∈ bs → A.units + 2 + (enc b).depth < cLine) (h : ∀ out, out.length = bs.length → EachIs R out (bs.mergeSort (dataLe false enc)) → Q (.ref (s.heap.objs.size + 1)) { s with heap := sortedAll s.heap vs (List.toArray out) }) :
    wpAny (model prog w) A (call (.builtin "sorted") [.ref l]) Q E s := by
  have old : EachIs (fun v b => ∃ as, Reads (sortingHeap (copyHeap s.heap vs) (s.heap.objs.size + 1) vs) v (enc b) as) vs bs := er.mono fun _ _ ⟨as, r⟩ => ⟨as, PyProof.Rows.Reads.keeps (fun _ _ => sorting_copy_old) r⟩
  refine sorted_tup hl (by rw [e.length]; exact hL) (SortsAt.data (s := { s with heap := sortingHeap (copyHeap s.heap vs) (s.heap.objs.size + 1) vs }) (each_map (R := fun v d => ∃ as, Reads (sortingHeap (copyHeap s.heap vs) (s.heap.objs.size + 1) vs) v d as) enc old) hal hk (bound_map hu)) ?_
  exact h _ (by rw [sortVals_length false rfl]; exact e.length) (sortVals_data false e old hal)
end
end Lw

namespace Lw
open PySem PySem.Spec PyProof.Rows L2
/-! ### sorted of a list or a tuple of data that are alike -/
open PySem.W in
def rSortedM (K : PySem.W.Frag) : List V → Hp → VK → Prop := fun vs H Q => ∃ (β : Type) (a : Addr) (bs : List β) (cv : β → V) (enc : β → PyData), vs = [.ref a] ∧ (SqL K H a (bs.map cv) ∨ SqT K H a (bs.map cv)) ∧ (∀ b ∈ bs, Dp K H (cv b) (enc b)) ∧
  AllAlike (bs.map enc) ∧ Sortable (bs.map enc) ∧ (∀ b ∈ bs, (enc b).depth ≤ 60) ∧ ∀ p, H p = none → Q (.ref p) (upd H p (.lst ((bs.mergeSort (dataLe false enc)).map cv)))
section
open PySem.W
theorem each_rel {β : Type} {cv : β → V} : ∀ {bs : List β} {its : List Value}, Vals (bs.map cv) its → EachIs (fun u b => RelV (cv b) u) its bs
  | [], _, r => by
    cases r
    exact .nil
  | b :: bs, _, r => by
    cases r with
    | cons h t => exact .cons h (each_rel t)
theorem rel_each {β : Type} {cv : β → V} : ∀ {bs : List β} {its : List Value}, EachIs (fun u b => RelV (cv b) u) its bs → Vals (bs.map cv) its
  | _, _, .nil => .nil
  | _, _, .cons h t => .cons h (rel_each t)
theorem each_and {α β : Type} {R S : α → β → Prop} : ∀ {as : List α} {bs : List β}, EachIs R as bs → (∀ b ∈ bs, ∀ a, R a b → S a b) → EachIs S as bs
  | _, _, .nil, _ => .nil
  | _, _, .cons h t, k => .cons (k _ List.mem_cons_self _ h) (each_and t fun b hb => k b (List.mem_cons_of_mem _ hb))
theorem cr_sortedM {X : Cx} (hu : X.A.units + 64 < cLine) : CallR X (.builtin "sorted") (rSortedM X.K) := by
  intro pins s σ H vs us Q I r h
  obtain ⟨β, a, bs, cv, enc, rfl, hq, hd, hal, hk, hdep, q⟩ := h
  obtain ⟨u, rfl, rx⟩ := vals1 r
  cases rx
  have fin : ∀ (its : List Value), bs.length ≤ sizeLine → ∀ out : List Value, out.length = bs.length → EachIs (fun u b => RelV (cv b) u) out (bs.mergeSort (dataLe false enc)) →
      EP X pins σ Q (.ref (s.heap.objs.size + 1)) { s with heap := sortedAll s.heap its out.toArray } := fun its hz out ho he => by
    obtain ⟨ep, hat⟩ := sortedAll_at s.heap its out.toArray
    refine ⟨.ref _, upd H (s.heap.objs.size + 1) (.lst ((bs.mergeSort (dataLe false enc)).map cv)), I.laid (t' := s.toks) (fun _ _ => sortedAll_old) (Nat.le_succ _) ⟨?_, out, ep, rel_each he, hat⟩, rfl, q _ (I.hok.fresh (Nat.le_succ _))⟩
    rw [List.length_map, List.length_mergeSort]
    exact hz
  have units : ∀ b, b ∈ bs → X.A.units + 2 + (enc b).depth < cLine := fun b hb => by
    have := hdep b hb
    omega
  rcases hq with hq | hq
  · obtain ⟨its, rv, hl, hz⟩ := I.list hq
    have hn := rv.length
    rw [List.length_map] at hz hn
    have e := each_rel rv
    refine sorted_data hl.isList e (each_and e fun b hb v hv => Dp.reads I _ _ _ (hd b hb) hv) hal hk (by omega) units fun out ho he => fin its (by omega) out ho he
  · obtain ⟨its, rv, hl, hz⟩ := I.tuple hq
    have hn := rv.length
    rw [List.length_map] at hz hn
    have e := each_rel rv
    refine sorted_dataT hl e (each_and e fun b hb v hv => Dp.reads I _ _ _ (hd b hb) hv) hal hk (by omega) units fun out ho he => fin its (by omega) out ho he
end
/-! ### enumerate of a tuple -/
open Sem (wp) in
open AutoSeq1 (wpAny_loadPart') in
theorem meets_enum_tup (t : Addr) (items : Array Value) (n : Nat) (dct : Option Addr) (sl : Array (Option Value)) :
    Meets (Builtin.«enumerate.__new__» ⟨[.type "enumerate", .ref t], []⟩) (fun _ R s => s.heap.get? t = some { cls := .type "tuple", dict := dct, data := .seq items n, slots := sl } ∧
      R (.ok (.ret (.ref (s.heap.push { cls := .type "tuple_iterator", data := .fields #[.ref t, .int 0 0] }).objs.size)))
        { s with heap := (s.heap.push { cls := .type "tuple_iterator", data := .fields #[.ref t, .int 0 0] }).push { cls := .type "enumerate", data := .fields #[.none, .bool false, .ref s.heap.objs.size, rawInt 0, .none, .none] } }) :=
  .of_wp fun prog w A R s h => by
    obtain ⟨hp, g, d, tk, os⟩ := s
    obtain ⟨hl, h⟩ := h
    have hsub := sub_enumerate
    have hT : Heap.IsTuple (Shared.heap ⟨hp, g, d, tk, os⟩) t items := ⟨_, hl, rfl, n, rfl⟩
    wp_walk using wpAny_loadPart' hl
    refine wpAny_stack_any fun st => wpAny_pure ?_
    split
    · rename_i c _ _ _ _ _
      cases (c == Value.type "enumerate") <;> (wp_walk using wpAny_loadPart' hl, wpAny_pyIter_tuple hT; exact ⟨_, rfl, h⟩)
    · wp_walk using wpAny_loadPart' hl, wpAny_pyIter_tuple hT
      exact ⟨_, rfl, h⟩
theorem call_enum_tup {prog : Program} {w : World} {A : Around} {E : Value → Shared → Prop} {s : Shared} {t : Addr} {items : Array Value} {Q : Value → Shared → Prop} (hT : s.heap.IsTuple t items)
    (h : ∀ h', IsEnum h' (s.heap.objs.size + 1) s.heap.objs.size 0 .none → h'.IsTupleIter s.heap.objs.size t 0 → (∀ b o, s.heap.get? b = some o → h'.get? b = some o) → Q (.ref (s.heap.objs.size + 1)) { s with heap := h' }) :
    wpAny (model prog w) A (call (.type "enumerate") [.ref t]) Q E s := by
  obtain ⟨⟨c, dct, dt, sl⟩, hl, hc, n, hd⟩ := hT
  obtain rfl : c = .type "tuple" := hc
  obtain rfl : dt = .seq items n := hd
  refine callType_new F.called_enumerate (by decide) (F.typeCall_enumerate_1 _) (F.newCall_enumerate_1 _) (fun obj => F.args_object_init_2 obj _) F.entry_enumerate_new (meets_enum_tup t items n dct sl) ⟨hl, ?_⟩
  have hz : (s.heap.push { cls := .type "tuple_iterator", data := .fields #[.ref t, .int 0 0] }).objs.size = s.heap.objs.size + 1 := Heap.size_push ..
  show _ ∧ _
  rw [hz]
  have he : IsEnum ((s.heap.push { cls := .type "tuple_iterator", data := .fields #[.ref t, .int 0 0] }).push { cls := .type "enumerate", data := .fields #[.none, .bool false, .ref s.heap.objs.size, rawInt 0, .none, .none] }) (s.heap.objs.size + 1) s.heap.objs.size 0 .none := by
    have z := Heap.get?_push_size (s.heap.push { cls := .type "tuple_iterator", data := .fields #[.ref t, .int 0 0] }) (o := { cls := .type "enumerate", data := .fields #[.none, .bool false, .ref s.heap.objs.size, rawInt 0, .none, .none] }) rfl
    rw [hz] at z
    exact z
  exact ⟨⟨_, he, rfl⟩, h _ he ⟨_, Heap.get?_push_of_some _ (Heap.get?_push_size _ rfl), rfl, rfl⟩ fun b o x => Heap.get?_push_of_some _ (Heap.get?_push_of_some _ x)⟩
/-- the tuple at a as it stands, each item in a new pair -/
def IteT (K : PySem.W.Frag) (a : Addr) : It :=
  ⟨fun i H => ∃ (xs : List V) (x : V), SqT K H a xs ∧ xs[i]? = some x, fun i H v H' => ∃ T x, v = .ref T ∧ H T = none ∧ H' = upd H T (.tup [.int (i : Nat), x]) ∧ ∀ xs, SqT K H a xs → xs[i]? = some x, fun i H => ∃ xs : List V, SqT K H a xs ∧ xs.length = i⟩
theorem turn_enumT {P : Program} {w : World} {K : PySem.W.Frag} {elts : List Expr} {kk : Nat} {tpos : Pos} (a e it : Addr) (hai : a ≠ it) (hae : a ≠ e) :
    Turn P w K (.Tuple elts kk tpos) (IteT K a) [e, it] e (fun i h => (∃ old, IsEnum h e it ((i : Nat) : Int) old) ∧ h.IsTupleIter it a i ∧ e ≠ it) where
  mem := by simp
  obj := fun i h st b hb => by
    obtain ⟨⟨old, he⟩, ⟨o, ho, hc, hd⟩, _⟩ := st
    rcases List.mem_cons.mp hb with z | z
    · rw [z]
      exact ⟨_, he, fun v q => nomatch q⟩
    · rw [List.mem_singleton.mp z]
      exact ⟨o, ho, fun v q => by rw [hd] at q; cases q⟩
  keep := fun i h h' st k => let ⟨⟨old, he⟩, hi, hne⟩ := st; ⟨⟨old, k e (by simp) _ he⟩, hi.at fun o q => k it (by simp) o q, hne⟩
  item := by
    intro X hP hw hK hc i pins s σ H E I hf st hg
    subst hP hw hK
    obtain ⟨⟨old, he⟩, hit, hne⟩ := st
    obtain ⟨xs, x, hq, hx⟩ := hg
    obtain ⟨its, rv, tp, hz⟩ := I.tuple hq
    obtain ⟨u, hu, ru⟩ := rv.get hx
    have hel : e < s.heap.objs.size := Heap.lt_size he
    have hil : it < s.heap.objs.size := by
      obtain ⟨_, q, _⟩ := hit
      exact Heap.lt_size q
    have hiz : i < its.toArray.size := by
      rw [List.size_toArray]
      exact (List.getElem?_eq_some_iff.mp hu).1
    have hhd : X.A.in1.handled = none := I.ok.hd hc
    refine wpAny_pyNext_enum_itemD (Draws.tuple hhd it a hai its.toArray) he ⟨hit, tp⟩ hiz hne (by simp [hne, Ne.symm hae]) fun x' h' tk hPx ho hst hT hsz hk => ?_
    have ex : x' = u := by
      rw [show its.toArray[i]? = some u by simpa using hu] at hPx
      exact (Option.some.inj hPx).symm
    subst ex
    refine ⟨_, rfl, wpAny_letOwnedTupleGo_enum (s := { s with heap := h', toks := tk + 1 }) ho fun h'' he' sb => ?_⟩
    have hT2 : h''.get? s.heap.objs.size = some { cls := .type "tuple", data := .seq #[.int i tk, x'] } := (sb.2 _ (Nat.ne_of_gt hel)).trans hT
    have new : ObjOk X.prog X.w (upd H s.heap.objs.size (.tup [.int (i : Nat), x])) h'' s.heap.objs.size (.tup [.int (i : Nat), x]) :=
      ⟨by show 2 ≤ sizeLine; decide, [.int i tk, x'], .cons ⟨_, rfl⟩ (.cons ru .nil), ⟨_, hT2, rfl, _, rfl⟩⟩
    have I1 : Inv X pins σ (upd H s.heap.objs.size (.tup [.int (i : Nat), x])) { s with heap := h'', toks := tk + 1 } :=
      I.turnedNew (ch := [e, it]) (fun b ob hb q => (sb.2 b (fun z => hb (by simp [z]))).trans (hk b ob (fun z => hb (by simp [z])) (fun z => hb (by simp [z])) q)) hf (Nat.le_refl _) new
    refine ⟨.ref s.heap.objs.size, _, I1, rfl, ⟨_, x, rfl, I.hok.fresh (Nat.le_refl _), rfl, fun ys hy => ?_⟩, ⟨⟨x', ?_⟩, hst.1.at fun o q => (sb.2 it (Ne.symm hne)).trans q, hne⟩, fun b hb => ?_⟩
    · rw [I.tuple_inj hy hq]
      exact hx
    · have e1 : ((i + 1 : Nat) : Int) = (i : Int) + 1 := by omega
      rw [e1]
      exact he'
    · have hb' : b < s.heap.objs.size := by
        rcases List.mem_cons.mp hb with z | z
        · rw [z]
          exact hel
        · rw [List.mem_singleton.mp z]
          exact hil
      rw [upd_ne (Nat.ne_of_lt hb')]
      exact (hf b hb).1
  done := by
    intro X hP hw hK hc i pins s σ H E I hf st hg
    subst hP hw hK
    obtain ⟨⟨old, he⟩, hit, hne⟩ := st
    obtain ⟨xs, hq, hx⟩ := hg
    obtain ⟨its, rv, tp, hz⟩ := I.tuple hq
    obtain ⟨f0, f1, f2, f3, f4, f5⟩ := hf it (by simp)
    have hl := rv.length
    obtain rfl : i = its.toArray.size := by rw [List.size_toArray]; omega
    have hhd : X.A.in1.handled = none := I.ok.hd hc
    exact wpAny_pyNext_enum_endD (Draws.tuple hhd it a hai its.toArray) he ⟨hit, tp⟩ fun h' eb => ⟨rfl, I.turned (t' := s.toks) (fun b o hb q => eb b o hb q) f0 f1 f3 f4 f5⟩
  self := fun A i s Q E st h => let ⟨⟨_, he⟩, _⟩ := st; wpAny_pyIter_enum he h
end Lw

namespace Lw
open PySem PySem.Spec PyProof.Rows L2
/-! ### enumerate of a list or a tuple -/
def iEnumS (K : PySem.W.Frag) (ta : TA) : TI := fun σ H R => ta σ H fun vs H1 => ∃ a xs, vs = [.ref a] ∧ ((SqL K H1 a xs ∧ R (Ite K a) H1) ∨ (SqT K H1 a xs ∧ R (IteT K a) H1))
theorem pi_enumS {X : Cx} {e : Expr} {ta : TA} {p pos tpos : Pos} {elts : List Expr} {kk : Nat} (hg : Gl X "enumerate") (hm : X.mg "enumerate" = none) (ha : PA X [e] ta) (hs : starEach [e] X.env = [(false, eval e X.env)] := by rfl) :
    PI X (.Tuple elts kk tpos) (.Call (.Name "enumerate" p) [e] [] pos) (iEnumS X.K ta) := by
  refine ⟨fun pins s σ H R I h => ?_⟩
  refine Call_ (ld_blt I hg hm boot_enumerate (PyProof.Rows.callWith_type1 (thn (ha.run pos pins s σ H _ I h) fun us s1 ⟨vs, H1, I1, r1, q1⟩ => ?_) hs rfl))
  obtain ⟨a, xs, ex, q1⟩ := q1
  subst ex
  cases r1 with
  | cons r rr =>
    cases rr
    cases r
    have end_ : ∀ b, b ∈ [s1.heap.objs.size + 1, s1.heap.objs.size] → s1.heap.objs.size ≤ b := fun b hb => by
      have e' : b = s1.heap.objs.size + 1 ∨ b = s1.heap.objs.size := by simpa using hb
      rcases e' with z | z
      · rw [z]; exact Nat.le_add_right _ _
      · rw [z]; exact Nat.le_refl _
    rcases q1 with ⟨hq, q⟩ | ⟨hq, q⟩
    · obtain ⟨its, rv, p', hz⟩ := I1.list hq
      refine call_enumerate_list p'.isList fun h' he hit hsz hk => wpAny_pyIter_enum he ?_
      have I2 : Inv X pins σ H1 { s1 with heap := h' } := I1.kept (t' := s1.toks) hk
      exact ⟨s1.heap.objs.size + 1, [s1.heap.objs.size + 1, s1.heap.objs.size], _, _, H1, rfl, I2, turn_enum a (s1.heap.objs.size + 1) s1.heap.objs.size, ⟨⟨.none, he⟩, hit, Nat.succ_ne_self _⟩, fun b hb => I1.fpOk (end_ b hb) (I1.hok.fresh (end_ b hb)), q⟩
    · obtain ⟨its, rv, tp, hz⟩ := I1.tuple hq
      have hlt : a < s1.heap.objs.size := by
        obtain ⟨o, ho, _⟩ := id tp
        exact Heap.lt_size ho
      refine call_enum_tup tp fun h' he hit hk => wpAny_pyIter_enum he ?_
      have I2 : Inv X pins σ H1 { s1 with heap := h' } := I1.kept (t' := s1.toks) hk
      exact ⟨s1.heap.objs.size + 1, [s1.heap.objs.size + 1, s1.heap.objs.size], _, _, H1, rfl, I2, turn_enumT a (s1.heap.objs.size + 1) s1.heap.objs.size (Nat.ne_of_lt hlt) (Nat.ne_of_lt (Nat.lt_succ_of_lt hlt)), ⟨⟨.none, he⟩, hit, Nat.succ_ne_self _⟩, fun b hb => I1.fpOk (end_ b hb) (I1.hok.fresh (end_ b hb)), q⟩
section
variable {K : PySem.W.Frag} {a : Addr} {xs : List V}
theorem walk_enumT : Walk (IteT K a) xs.length (fun H => SqT K H a xs) (YPair (fun i => some (.int (i : Nat))) (fun i => xs[i]?)) := by
  refine ⟨fun i _ hi q => ⟨xs, xs[i], q, by simp [hi]⟩, fun _ q => ⟨xs, q, rfl⟩, fun i H v H' _ q y => ?_⟩
  obtain ⟨T, x, h1, h2, h3, h4⟩ := y
  exact ⟨T, .int (i : Nat), x, h1, h2, h3, rfl, h4 xs q⟩
end
section
open Evl
variable {K : PySem.W.Frag} {σ : L2.St} {H : Hp} {D : Ends} {te : TE} {tu tz : TS} {x : V}
theorem s_forEn {a : Addr} {xs : List V} {j k : Nat} (h : Ev te σ H (.ref a)) (hx : SqL K H a xs ∨ SqT K H a xs) (Pv : Nat → L2.St → Hp → Prop) (h0 : ∀ H1, Ex H H1 → Pv 0 σ H1) (hl : ∀ i σ' H', Pv i σ' H' → Ex H H')
    (hs : ∀ i x σ' H' T, xs[i]? = some x → Pv i σ' H' → H' T = none → tu { D with nx := Pv (i + 1), ct := Pv (i + 1), bk := D.nx } ((σ'.set j (some (.int (i : Nat)))).set k (some x)) (upd H' T (.tup [.int (i : Nat), x])))
    (hd : ∀ σ' H', Pv xs.length σ' H' → D.nx σ' H') : tFor (iEnumS K (tCons te tNil)) (gTup K 2 (gCons (gName j) (gCons (gName k) gNil))) tu D σ H := by
  refine h H (Ex.refl H) _ fun H1 e => ⟨a, xs, rfl, ?_⟩
  have go : ∀ i x σ' H' H2, i < xs.length → Pv i σ' H' → YPair (fun i => some (.int (i : Nat))) (fun i => xs[i]?) i H' x H2 → gTup K 2 (gCons (gName j) (gCons (gName k) gNil)) x σ' H2 fun σ2 H2 => tu { D with nx := Pv (i + 1), ct := Pv (i + 1), bk := D.nx } σ2 H2 := fun i x σ' H' H2 hi p y => by
    obtain ⟨T, x1, x2, rfl, nT, rfl, e1, e2⟩ := y
    cases e1
    exact ⟨T, _, rfl, st_of upd_same, rfl, _, _, rfl, _, _, rfl, rfl, hs i x2 σ' H' T e2 p nT⟩
  rcases hx with hx | hx
  · exact .inl ⟨ex_l e hx, for_it walk_enum Pv (h0 H1 e) (fun i σ' H' _ p => ex_l (hl i σ' H' p) hx) go hd⟩
  · exact .inr ⟨ex_t e hx, for_it walk_enumT Pv (h0 H1 e) (fun i σ' H' _ p => ex_t (hl i σ' H' p) hx) go hd⟩
theorem q_forEn {a : Addr} {xs : List V} {j k : Nat} (h : Ev te σ H (.ref a)) (hx : SqL K H a xs ∨ SqT K H a xs) (Pv : Nat → L2.St → Hp → Prop) (h0 : ∀ H1, Ex H H1 → Pv 0 σ H1) (hl : ∀ i σ' H', Pv i σ' H' → Ex H H')
    (hs : ∀ i x σ' H' T, xs[i]? = some x → Pv i σ' H' → H' T = none → tu { D with nx := Pv (i + 1), ct := Pv (i + 1), bk := tz D } ((σ'.set j (some (.int (i : Nat)))).set k (some x)) (upd H' T (.tup [.int (i : Nat), x])))
    (hd : ∀ σ' H', Pv xs.length σ' H' → tz D σ' H') : tSeq (tFor (iEnumS K (tCons te tNil)) (gTup K 2 (gCons (gName j) (gCons (gName k) gNil))) tu) tz D σ H := s_forEn (D := { D with nx := tz D }) h hx Pv h0 hl hs hd
/-! ### a slice of a list or a tuple -/
def EvS (te : TE) (K : PySem.W.Frag) (σ : L2.St) (H : Hp) (xs : List V) : Prop := ∀ H1, Ex H H1 → ∀ Q : VK, (∀ p H2, Ex H1 H2 → (SqL K H2 p xs ∨ SqT K H2 p xs) → Q (.ref p) H2) → te σ H1 Q
theorem cutV_to (xs : List V) (k : Nat) : cutV xs none (some (k : Int)) = xs.take k := by
  unfold cutV HT.sIx
  simp only [List.drop_zero, Nat.sub_zero]
  have : ¬ ((k : Int) < 0) := by omega
  simp [this]
theorem es_sl {tl th : TO} {a : Addr} {xs : List V} {lo hi : Option Int} (h : Ev te σ H (.ref a)) (h1 : EvO tl σ H lo) (h2 : EvO th σ H hi) (hs : SqL K H a xs ∨ SqT K H a xs) :
    EvS (tSl (fun x lo hi H Q => rSlL K x lo hi H Q ∨ rSlA K x lo hi H Q) te tl th) K σ H (cutV xs lo hi) := fun H1 e Q q =>
  h H1 e _ fun H2 e2 => h1 H2 (e.trans e2) _ fun H3 e3 => h2 H3 ((e.trans e2).trans e3) _ fun H4 e4 => by
    have e14 := (e2.trans e3).trans e4
    rcases hs with hs | hs
    · exact .inl ⟨a, xs, rfl, ex_l (e.trans e14) hs, fun p hp => q p _ (e14.trans (Ex.new hp)) (.inl (sq_of upd_same))⟩
    · refine .inr ⟨a, xs, rfl, ex_t (e.trans e14) hs, fun hw => ?_, fun hw p hp => q p _ (e14.trans (Ex.new hp)) (.inr (st_of upd_same))⟩
      have : cutV xs lo hi = xs := by
        unfold cutV
        rw [hw.1, hw.2, List.drop_zero, Nat.sub_zero, List.take_of_length_le (Nat.le_refl _)]
      rw [this] at q
      exact q a _ e14 (.inr (ex_t (e.trans e14) hs))
theorem ev_inS {ta tb : TE} {neg : Bool} {xs : List V} (ha : Ev ta σ H x) (hb : EvS tb K σ H xs) (hx : flatV x = true) (hf : xs.all flatV = true) : Ev (tOp (rIn K neg) ta tb) σ H (.bl (if neg then !inV x xs else inV x xs)) := fun H1 e Q q =>
  ha H1 e _ fun H2 e2 => hb H2 (e.trans e2) _ fun p H3 e3 hp => ⟨p, xs, rfl, hp, hx, hf, q H3 (e2.trans e3)⟩
theorem inV_strs (s : Str) (ws : List Str) : inV (.str s) (ws.map V.str) = decide (s ∈ ws) := by
  induction ws with
  | nil => rfl
  | cons w r ih =>
    unfold inV at ih ⊢
    rw [List.map_cons, List.any_cons, ih, Bool.eq_iff_iff]
    rw [Bool.or_eq_true, decide_eq_true_iff, decide_eq_true_iff, List.mem_cons]
    have : eqV (.str w) (.str s) = true ↔ s = w := by
      show (w == s) = true ↔ _
      rw [beq_iff_eq]
      exact eq_comm
    rw [this]
theorem flat_strs (ws : List Str) : (ws.map V.str).all flatV = true := by
  rw [List.all_map, List.all_eq_true]
  intro x _
  rfl
end
theorem dp_ex {K : PySem.W.Frag} {H H' : Hp} (e : Evl.Ex H H') : ∀ (d : PyData) (v : V), Dp K H v d → Dp K H' v d := by
  intro d v h
  exact Dp.rec (motive_1 := fun v d _ => Dp K H' v d) (motive_2 := fun vs ds _ => DpAll K H' vs ds) .non (fun b => .bl b) (fun i => .int i) (fun s => .str s) (fun hs _ ih => .lst (Evl.ex_l e hs) ih) (fun hs _ ih => .tup (Evl.ex_t e hs) ih) .nil (fun _ _ h1 h2 => .cons h1 h2) h
end Lw

namespace Lw
open PySem PySem.Spec PyProof.Rows L2
open PySem.W (dataLe dataLe_str)
/-! ### what goods_of answers -/
inductive GR
  | cnt
  | nm (s : Str)
  | tw (s : Str)
  | ok
  deriving DecidableEq
def scan : List Str → List Str → GR
  | _, [] => .ok
  | seen, s :: r => if vn s = false then .nm s else if s ∈ seen then .tw s else scan (seen ++ [s]) r
def gres (ws : List Str) : GR := if ws.length < 1 ∨ 5 < ws.length then .cnt else scan [] ws
theorem scan_step {ws : List Str} {i : Nat} {s : Str} (h : ws[i]? = some s) : scan (ws.take i) (ws.drop i) = if vn s = false then .nm s else if s ∈ ws.take i then .tw s else scan (ws.take (i + 1)) (ws.drop (i + 1)) := by
  have hi := (List.getElem?_eq_some_iff.mp h)
  obtain ⟨hi, e⟩ := hi
  rw [List.drop_eq_getElem_cons hi, e, scan, List.take_add_one, h]
  rfl
theorem scan_end (ws : List Str) : scan (ws.take ws.length) (ws.drop ws.length) = .ok := by
  rw [List.drop_length]
  rfl
theorem gres_in {ws : List Str} (h1 : 1 ≤ ws.length) (h5 : ws.length ≤ 5) : gres ws = scan (ws.take 0) (ws.drop 0) := by
  unfold gres
  rw [if_neg (by omega)]
  rfl
theorem scan_ok : ∀ (r seen : List Str), seen.Nodup → (scan seen r = .ok ↔ (∀ s ∈ r, vn s = true) ∧ (seen ++ r).Nodup)
  | [], seen, h => by
    rw [List.append_nil]
    exact ⟨fun _ => ⟨fun _ h => (nomatch h), h⟩, fun _ => rfl⟩
  | s :: r, seen, h => by
    rw [scan]
    by_cases h1 : vn s = false
    · rw [if_pos h1]
      refine ⟨fun h => (nomatch h), fun k => ?_⟩
      rw [k.1 s List.mem_cons_self] at h1
      cases h1
    · rw [if_neg h1]
      by_cases h2 : s ∈ seen
      · rw [if_pos h2]
        refine ⟨fun h => (nomatch h), fun k => ?_⟩
        exact absurd rfl ((List.nodup_append.mp k.2).2.2 s h2 s List.mem_cons_self)
      · rw [if_neg h2]
        have hn : (seen ++ [s]).Nodup := List.nodup_append.mpr ⟨h, by simp, fun a ha b hb e => by
          rw [List.mem_singleton] at hb
          rw [e, hb] at ha
          exact h2 ha⟩
        rw [scan_ok r (seen ++ [s]) hn, List.append_assoc]
        have : vn s = true := by simpa using h1
        refine ⟨fun k => ⟨fun t ht => ?_, k.2⟩, fun k => ⟨fun t ht => k.1 t (List.mem_cons_of_mem _ ht), k.2⟩⟩
        rcases List.mem_cons.mp ht with rfl | ht
        · exact this
        · exact k.1 t ht
theorem gres_ok {ws : List Str} : gres ws = .ok ↔ (1 ≤ ws.length ∧ ws.length ≤ 5) ∧ (∀ s ∈ ws, vn s = true) ∧ ws.Nodup := by
  unfold gres
  by_cases h : ws.length < 1 ∨ 5 < ws.length
  · rw [if_pos h]
    exact ⟨fun h => (nomatch h), fun k => by omega⟩
  · rw [if_neg h, scan_ok ws [] List.nodup_nil]
    exact ⟨fun k => ⟨by omega, k⟩, fun k => k.2⟩
/-- in order -/
def srt (ws : List Str) : List Str := ws.mergeSort (dataLe false PyData.str)
theorem srt_eq (ws : List Str) : srt ws = ws.mergeSort fun a b => decide (a.cps.toList ≤ b.cps.toList) := by
  unfold srt
  rw [show dataLe false PyData.str = dataLe false (fun b : Str => .str (id b)) from rfl, dataLe_str]
  rfl
theorem srt_perm (ws : List Str) : (srt ws).Perm ws := List.mergeSort_perm ws _
theorem srt_len (ws : List Str) : (srt ws).length = ws.length := (srt_perm ws).length_eq
theorem srt_mem {ws : List Str} {s : Str} : s ∈ srt ws ↔ s ∈ ws := (srt_perm ws).mem_iff
theorem srt_sorted (ws : List Str) : (srt ws).Pairwise fun a b => decide (a.cps.toList ≤ b.cps.toList) = true := by
  rw [srt_eq]
  refine List.pairwise_mergeSort (fun a b c h1 h2 => ?_) (fun a b => ?_) ws
  · rw [decide_eq_true_iff] at h1 h2 ⊢
    exact List.le_trans h1 h2
  · rw [Bool.or_eq_true, decide_eq_true_iff, decide_eq_true_iff]
    exact List.le_total _ _
theorem srt_idem (ws : List Str) : srt (srt ws) = srt ws := by
  rw [srt_eq (srt ws)]
  exact List.mergeSort_of_pairwise (srt_sorted ws)
theorem gres_srt {ws : List Str} (h : gres ws = .ok) : gres (srt ws) = .ok := by
  rw [gres_ok] at h ⊢
  rw [srt_len]
  exact ⟨h.1, fun s hs => h.2.1 s (srt_mem.mp hs), (srt_perm ws).nodup_iff.mpr h.2.2⟩
/-! ### the contracts -/
def TxtOk (ws : List Str) : Prop := ∀ s ∈ ws, s.length ≤ 1000 ∧ SOk s
theorem srt_ok {ws : List Str} (h : TxtOk ws) : TxtOk (srt ws) := fun s hs => h s (srt_mem.mp hs)
def SqS (K : PySem.W.Frag) (H : Hp) (a : Addr) (ws : List Str) : Prop := SqL K H a (ws.map V.str) ∨ SqT K H a (ws.map V.str)
theorem sqs_ex {K : PySem.W.Frag} {H H' : Hp} {a : Addr} {ws : List Str} (e : Evl.Ex H H') (h : SqS K H a ws) : SqS K H' a ws := h.elim (fun h => .inl (Evl.ex_l e h)) fun h => .inr (Evl.ex_t e h)
def goodsAt (CB CN CD : Addr) (ws : List Str) (H1 : Hp) (Q : VK) (E : XK) : Prop := match gres ws with
  | .cnt => ∀ d, H1 d = none → E (.ref CB) (some d) (upd H1 d (.xd [("count", .int (ws.length : Int))]))
  | .nm s => ∀ d, H1 d = none → E (.ref CN) (some d) (upd H1 d (.xd [("name", .str s)]))
  | .tw s => ∀ d, H1 d = none → E (.ref CD) (some d) (upd H1 d (.xd [("name", .str s)]))
  | .ok => ∀ p, H1 p = none → Q (.ref p) (upd H1 p (.tup ((srt ws).map V.str)))
def sp_goods (K : PySem.W.Frag) (CB CN CD : Addr) : Sp := fun vs H Q E => ∃ (a : Addr) (ws : List Str), vs = [.ref a] ∧ SqS K H a ws ∧ TxtOk ws ∧ ws.length ≤ 1000 ∧ ∀ H1, Evl.Ex H H1 → goodsAt CB CN CD ws H1 Q E
/-- a class of the module -/
theorem pe_cls {X : Cx} {x : Str} {p : Pos} {C : Addr} (hg : Gl X x) (hm : X.mg x = some (.ref C)) (hdb : (x == ("__debug__" : Str)) = false := by decide) : PE X (.Name x p) (tC (.ref C)) := pe_gv hg ⟨_, hm, rfl⟩ hdb
/-- a class of errors with one field -/
structure ErC (P : Program) (w : World) (K : PySem.W.Frag) (mg : Str → Option Value) (base : Heap) (x f : Str) (C fI : Addr) (fd : FuncData) : Prop where
  O : OexC K C
  X : XfC K C
  I : IsC K C
  i : PySem.W.findIn K (.ref C) "__init__" = some (some (.ref fI))
  t : PySem.W.typeIn K (.ref fI) = some (.type "function")
  no : PySem.W.findIn K (.ref C) f = some none
  g : mg x = some (.ref C)
  G : FnOk P w K mg base CX0 1 fI fd ["self", f] (sp_init1 K C f)
  b : Binds K fd ["self", f] []
/-- what is told, what is due -/
def TellAt (H : Hp) (p : Addr) (ws : List Str) : Prop := match gres ws with
  | .cnt => H p = some (.lst [.str "count", .int (ws.length : Int), .bl true])
  | .nm s => H p = some (.lst [.str "name", .str s, .bl true])
  | .tw s => H p = some (.lst [.str "twice", .str s, .bl true])
  | .ok => ∃ t, H p = some (.lst [.str "goods", .ref t]) ∧ H t = some (.tup ((srt ws).map V.str))
def tellD (ws : List Str) : PyData := match gres ws with
  | .cnt => .list [.str "count", .int (ws.length : Int), .bool true]
  | .nm s => .list [.str "name", .str s, .bool true]
  | .tw s => .list [.str "twice", .str s, .bool true]
  | .ok => .list [.str "goods", .tuple ((srt ws).map PyData.str)]
theorem TellAt.ex {H H' : Hp} {p : Addr} {ws : List Str} (e : Evl.Ex H H') (h : TellAt H p ws) : TellAt H' p ws := by
  unfold TellAt at h ⊢
  split at h
  · exact e _ _ h
  · exact e _ _ h
  · exact e _ _ h
  · obtain ⟨t, h1, h2⟩ := h
    exact ⟨t, e _ _ h1, e _ _ h2⟩
theorem TellAt.dp {K : PySem.W.Frag} {H : Hp} {p : Addr} {ws : List Str} (h : TellAt H p ws) : Dp K H (.ref p) (tellD ws) := by
  unfold TellAt at h
  unfold tellD
  split at h
  · exact .lst (Evl.sq_of h) (.cons (.str _) (.cons (.int _) (.cons (.bl _) .nil)))
  · exact .lst (Evl.sq_of h) (.cons (.str _) (.cons (.str _) (.cons (.bl _) .nil)))
  · exact .lst (Evl.sq_of h) (.cons (.str _) (.cons (.str _) (.cons (.bl _) .nil)))
  · obtain ⟨t, h1, h2⟩ := h
    exact .lst (Evl.sq_of h1) (.cons (.str _) (.cons (dp_strsT (Evl.st_of h2)) .nil))
theorem TellAt.head {H : Hp} {p : Addr} {ws : List Str} (h : TellAt H p ws) : ∃ (tag : Str) (r : List V), H p = some (.lst (.str tag :: r)) ∧ SOk tag ∧ (gres ws ≠ .ok → tag ≠ "goods") ∧ (gres ws = .ok → tag = "goods" ∧ ∃ t, r = [.ref t] ∧ H t = some (.tup ((srt ws).map V.str))) := by
  have lit : ∀ {z : Str}, (z.cps.toList.all fun c => decide (c < 0x110000)) = true → SOk z := fun {z} k c hc => by
    have := List.all_eq_true.mp k c hc
    exact of_decide_eq_true this
  unfold TellAt at h
  cases hg : gres ws with
  | cnt =>
    rw [hg] at h
    exact ⟨_, _, h, lit (by decide +kernel), (fun _ => by decide +kernel), (fun k => nomatch k)⟩
  | nm s =>
    rw [hg] at h
    exact ⟨_, _, h, lit (by decide +kernel), (fun _ => by decide +kernel), (fun k => nomatch k)⟩
  | tw s =>
    rw [hg] at h
    exact ⟨_, _, h, lit (by decide +kernel), (fun _ => by decide +kernel), (fun k => nomatch k)⟩
  | ok =>
    rw [hg] at h
    obtain ⟨t, h1, h2⟩ := h
    exact ⟨_, _, h1, lit (by decide +kernel), (fun k => absurd rfl k), fun _ => ⟨rfl, t, rfl, h2⟩⟩
theorem TellAt.srt {H : Hp} {p : Addr} {ws : List Str} (h : TellAt H p ws) (hg : gres ws = .ok) : TellAt H p (srt ws) := by
  unfold TellAt at h ⊢
  rw [gres_srt hg]
  rw [hg] at h
  rw [srt_idem]
  exact h
theorem perm_strs {ys : List V} {ws : List Str} (h : ys.Perm (ws.map V.str)) : ∃ zs : List Str, ys = zs.map V.str ∧ zs.Perm ws := by
  let g : V → Str := fun v => match v with
    | .str z => z
    | _ => ""
  refine ⟨ys.map g, ?_, ?_⟩
  · rw [List.map_map]
    refine (List.map_id ys).symm.trans (List.map_congr_left fun v hv => ?_)
    obtain ⟨z, _, rfl⟩ := List.mem_map.mp (h.mem_iff.mp hv)
    rfl
  · have := h.map g
    rw [List.map_map] at this
    rw [show ws.map (g ∘ V.str) = ws from (List.map_congr_left fun z _ => rfl).trans (List.map_id ws)] at this
    exact this
/-- texts of few signs, all below 128 -/
def Asc (m : Nat) (ws : List Str) : Prop := ∀ z ∈ ws, z.length ≤ m ∧ ∀ c ∈ z.cps.toList, c < 128
theorem Asc.ok {m : Nat} {ws : List Str} (h : Asc m ws) (hm : m ≤ 1000) : TxtOk ws := fun z hz => ⟨Nat.le_trans (h z hz).1 hm, fun c hc => by
  have := (h z hz).2 c hc
  omega⟩
theorem asc_upper {z : Str} (h : ∀ c ∈ z.cps.toList, c < 128) : (Txt.upper z).length = z.length ∧ ∀ c ∈ (Txt.upper z).cps.toList, c < 128 := by
  rw [PyProof.Rows.upper_ascii h]
  refine ⟨by simp [Str.length], fun c hc => ?_⟩
  simp only [Array.toList_map, List.mem_map] at hc
  obtain ⟨d, hd, rfl⟩ := hc
  have := h d hd
  unfold PyProof.Rows.up1
  split <;> omega
theorem tellD_good {ws : List Str} (h : TxtOk ws) : GoodD 2 (tellD ws) := by
  have hs : ∀ {s : Str} {r : List Str}, scan r ws = .nm s ∨ scan r ws = .tw s → s ∈ ws := fun {s r} => by
    induction ws generalizing r with
    | nil => rintro (h | h) <;> cases h
    | cons x l ih =>
      rw [scan]
      split
      · rintro (h | h) <;> cases h
        exact List.mem_cons_self
      · split
        · rintro (h | h) <;> cases h
          exact List.mem_cons_self
        · exact fun k => List.mem_cons_of_mem _ (ih (fun s hs => h s (List.mem_cons_of_mem _ hs)) k)
  have gs : ∀ {s : Str}, gres ws = .nm s ∨ gres ws = .tw s → SOk s := fun {s} k => by
    unfold gres at k
    split at k
    · rcases k with k | k <;> cases k
    · exact (h s (hs k)).2
  have lit : ∀ {z : Str}, (z.cps.toList.all fun c => decide (c < 0x110000)) = true → SOk z := fun {z} k c hc => by
    have := List.all_eq_true.mp k c hc
    exact of_decide_eq_true this
  have g : GoodD 2 (tellD ws) := by
    unfold tellD
    split
    · refine good_list (n := 1) fun d hd => ?_
      simp only [List.mem_cons, List.not_mem_nil, or_false] at hd
      rcases hd with rfl | rfl | rfl
      · exact good_str (lit (by decide +kernel))
      · exact good_int _
      · exact good_bool _
    · rename_i s hg
      refine good_list (n := 1) fun d hd => ?_
      simp only [List.mem_cons, List.not_mem_nil, or_false] at hd
      rcases hd with rfl | rfl | rfl
      · exact good_str (lit (by decide +kernel))
      · exact good_str (gs (.inl hg))
      · exact good_bool _
    · rename_i s hg
      refine good_list (n := 1) fun d hd => ?_
      simp only [List.mem_cons, List.not_mem_nil, or_false] at hd
      rcases hd with rfl | rfl | rfl
      · exact good_str (lit (by decide +kernel))
      · exact good_str (gs (.inr hg))
      · exact good_bool _
    · refine good_list (n := 1) fun d hd => ?_
      simp only [List.mem_cons, List.not_mem_nil, or_false] at hd
      rcases hd with rfl | rfl
      · exact good_str (lit (by decide +kernel))
      · exact good_strsT fun z hz => (srt_ok h z hz).2
  exact g
end Lw

namespace Lw
open PySem PySem.Spec PyProof.Rows L2
open PySem.W (dataLe dataLe_str)
/-! ### bundles by the places of their goods -/
def nextI (n : Nat) (L : List (List Nat)) : List (List Nat) := L.flatMap fun b => ((List.range n).filter fun g => b.isEmpty || decide (b.getLastD 0 < g)).map fun g => b ++ [g]
def layI (n : Nat) : Nat → List (List Nat)
  | 0 => [[]]
  | k + 1 => nextI n (layI n k)
def flatI (n k : Nat) : List (List Nat) := (List.range k).flatMap (layI n)
def allI (n : Nat) : List (List Nat) := flatI n (n + 1)
def fndI : Nat → List (List Nat)
  | 0 => [[]]
  | k + 1 => fndI k ++ (fndI k).map fun b => b ++ [k]
def upto {P : Nat → Bool} (n : Nat) (h : (List.range n).all P = true) (i : Nat) (hi : i < n) : P i = true := List.all_eq_true.mp h i (List.mem_range.mpr hi)
theorem lay_end (n : Nat) (hn : n < 6) : layI n 6 = [] := by
  have := upto (P := fun n => decide (layI n 6 = [])) 6 (by decide +kernel) n hn
  exact of_decide_eq_true this
theorem flat_all (n k : Nat) (hn : n < 6) (hk : k < 7) (h : layI n k = []) : flatI n k = allI n := by
  have := upto (P := fun n => (List.range 7).all fun k => decide (layI n k = [] → flatI n k = allI n)) 6 (by decide +kernel) n hn
  exact of_decide_eq_true (upto (P := fun k => decide (layI n k = [] → flatI n k = allI n)) 7 this k hk) h
theorem lay_in (n k : Nat) (hn : n < 6) (hk : k < 7) : ∀ b ∈ layI n k, b.length ≤ 5 ∧ ∀ i ∈ b, i < n := by
  have := upto (P := fun n => (List.range 7).all fun k => decide (∀ b ∈ layI n k, b.length ≤ 5 ∧ ∀ i ∈ b, i < n)) 6 (by decide +kernel) n hn
  exact of_decide_eq_true (upto (P := fun k => decide (∀ b ∈ layI n k, b.length ≤ 5 ∧ ∀ i ∈ b, i < n)) 7 this k hk)
theorem lay_len (n k : Nat) (hn : n < 6) (hk : k < 7) : (layI n k).length ≤ 32 ∧ (flatI n k).length ≤ 32 := by
  have := upto (P := fun n => (List.range 7).all fun k => decide ((layI n k).length ≤ 32 ∧ (flatI n k).length ≤ 32)) 6 (by decide +kernel) n hn
  exact of_decide_eq_true (upto (P := fun k => decide ((layI n k).length ≤ 32 ∧ (flatI n k).length ≤ 32)) 7 this k hk)
theorem all_in (n : Nat) (hn : n < 6) : ∀ b ∈ allI n, b.length ≤ 5 ∧ ∀ i ∈ b, i < n := by
  have := upto (P := fun n => decide (∀ b ∈ allI n, b.length ≤ 5 ∧ ∀ i ∈ b, i < n)) 6 (by decide +kernel) n hn
  exact of_decide_eq_true this
theorem all_nodup (n : Nat) (hn : n < 6) : (allI n).Nodup := by
  have := upto (P := fun n => decide (allI n).Nodup) 6 (by decide +kernel) n hn
  exact of_decide_eq_true this
theorem all_self (n : Nat) (hn : n < 6) : ∀ b ∈ allI n, ((List.range n).filter fun i => decide (i ∈ b)) = b := by
  have := upto (P := fun n => decide (∀ b ∈ allI n, ((List.range n).filter fun i => decide (i ∈ b)) = b)) 6 (by decide +kernel) n hn
  exact of_decide_eq_true this
theorem fnd_in (n : Nat) (hn : n < 6) : (fndI n).length ≤ 32 ∧ ∀ b ∈ fndI n, b.length ≤ 5 ∧ ∀ i ∈ b, i < n := by
  have := upto (P := fun n => decide ((fndI n).length ≤ 32 ∧ ∀ b ∈ fndI n, b.length ≤ 5 ∧ ∀ i ∈ b, i < n)) 6 (by decide +kernel) n hn
  exact of_decide_eq_true this
/-- the places of what was found, among all -/
theorem fnd_at (n : Nat) (hn : n < 6) : ((fndI n).map fun b => (allI n).idxOf b).isPerm (List.range (allI n).length) = true ∧ ∀ b ∈ fndI n, b ∈ allI n := by
  have := upto (P := fun n => ((fndI n).map fun b => (allI n).idxOf b).isPerm (List.range (allI n).length) && decide (∀ b ∈ fndI n, b ∈ allI n)) 6 (by decide +kernel) n hn
  rw [Bool.and_eq_true] at this
  exact ⟨this.1, of_decide_eq_true this.2⟩
/-- less, by length and then in order -/
def ltI (a b : List Nat) : Bool := decide (a.length < b.length) || (decide (a.length = b.length) && decide (a < b))
theorem fnd_le (n : Nat) (hn : n < 6) : ∀ a ∈ fndI n, ∀ b ∈ fndI n, (!ltI b a) = decide ((allI n).idxOf a ≤ (allI n).idxOf b) := by
  have := upto (P := fun n => decide (∀ a ∈ fndI n, ∀ b ∈ fndI n, (!ltI b a) = decide ((allI n).idxOf a ≤ (allI n).idxOf b))) 6 (by decide +kernel) n hn
  exact of_decide_eq_true this
/-! ### and by the goods themselves -/
def Inc (ws : List Str) : Prop := ws.Pairwise fun a b => a.cps.toList < b.cps.toList
def fI (ws : List Str) (i : Nat) : Str := ws.getD i ""
def bagI (ws : List Str) (b : List Nat) : List Str := b.map (fI ws)
theorem fI_at {ws : List Str} {i : Nat} {s : Str} (h : ws[i]? = some s) : fI ws i = s := by
  unfold fI
  rw [List.getD_eq_getElem?_getD, h]
  rfl
theorem ws_eq (ws : List Str) : ws = (List.range ws.length).map (fI ws) := by
  apply List.ext_getElem?
  intro i
  rw [List.getElem?_map]
  by_cases h : i < ws.length
  · rw [List.getElem?_range h, Option.map_some, List.getElem?_eq_getElem h, fI_at (List.getElem?_eq_getElem h)]
  · rw [List.getElem?_eq_none (by omega), List.getElem?_eq_none (by simp; omega)]
    rfl
theorem inc_lt {ws : List Str} (h : Inc ws) {i j : Nat} (hi : i < ws.length) (hj : j < ws.length) : (fI ws i).cps.toList < (fI ws j).cps.toList ↔ i < j := by
  have key : ∀ {i j : Nat} (hi : i < ws.length) (hj : j < ws.length), i < j → (fI ws i).cps.toList < (fI ws j).cps.toList := fun {i j} hi hj hij => by
    rw [fI_at (List.getElem?_eq_getElem hi), fI_at (List.getElem?_eq_getElem hj)]
    exact List.pairwise_iff_getElem.mp h i j hi hj hij
  constructor
  · intro hl
    rcases Nat.lt_trichotomy i j with h1 | h1 | h1
    · exact h1
    · subst h1
      exact absurd hl (List.lt_irrefl _)
    · exact absurd (List.lt_trans hl (key hj hi h1)) (List.lt_irrefl _)
  · exact key hi hj
theorem inc_inj {ws : List Str} (h : Inc ws) {i j : Nat} (hi : i < ws.length) (hj : j < ws.length) (e : fI ws i = fI ws j) : i = j := by
  rcases Nat.lt_trichotomy i j with h1 | h1 | h1
  · exact absurd (e ▸ (inc_lt h hi hj).mpr h1) (List.lt_irrefl _)
  · exact h1
  · exact absurd (e ▸ (inc_lt h hj hi).mpr h1) (List.lt_irrefl _)
theorem bag_inj {ws : List Str} (h : Inc ws) : ∀ {a b : List Nat}, (∀ i ∈ a, i < ws.length) → (∀ i ∈ b, i < ws.length) → bagI ws a = bagI ws b → a = b
  | [], [], _, _, _ => rfl
  | [], _ :: _, _, _, e => by cases e
  | _ :: _, [], _, _, e => by cases e
  | x :: a, y :: b, ha, hb, e => by
    have e' : fI ws x = fI ws y ∧ bagI ws a = bagI ws b := List.cons.inj e
    rw [inc_inj h (ha x List.mem_cons_self) (hb y List.mem_cons_self) e'.1, bag_inj h (fun i hi => ha i (List.mem_cons_of_mem _ hi)) (fun i hi => hb i (List.mem_cons_of_mem _ hi)) e'.2]
theorem srt_inc {ws : List Str} (h : ws.Nodup) : Inc (srt ws) := by
  have h1 := srt_sorted ws
  have h2 : (srt ws).Pairwise (· ≠ ·) := (srt_perm ws).nodup_iff.mpr h
  refine (h1.and h2).imp fun {a b} k => ?_
  have k1 := of_decide_eq_true k.1
  exact Classical.byContradiction fun z => k.2 (str_ext (List.le_antisymm k1 (List.not_lt.mp z)))
end Lw

namespace Lw
open PySem PySem.Spec PyProof.Rows L2
/-! ### lists of tuples of texts -/
def BagAt (H : Hp) (v : V) (b : List Str) : Prop := ∃ a, v = .ref a ∧ H a = some (.tup (b.map V.str))
def Bags (H : Hp) : List V → List (List Str) → Prop
  | [], [] => True
  | v :: vs, b :: bs => BagAt H v b ∧ Bags H vs bs
  | _, _ => False
theorem BagAt.ex {H H' : Hp} {v : V} {b : List Str} (e : Evl.Ex H H') (h : BagAt H v b) : BagAt H' v b := by
  obtain ⟨a, h1, h2⟩ := h
  exact ⟨a, h1, e _ _ h2⟩
theorem BagAt.put {H : Hp} {v : V} {b : List Str} {p : Addr} {xs : List V} {o : HO} (hp : H p = some (.lst xs)) (h : BagAt H v b) : BagAt (upd H p o) v b := by
  obtain ⟨a, h1, h2⟩ := h
  refine ⟨a, h1, (upd_ne fun z => ?_).trans h2⟩
  rw [z, hp] at h2
  cases h2
theorem Bags.imp {H H' : Hp} (k : ∀ v b, BagAt H v b → BagAt H' v b) : ∀ {vs : List V} {bs : List (List Str)}, Bags H vs bs → Bags H' vs bs
  | [], [], _ => trivial
  | _ :: _, _ :: _, h => ⟨k _ _ h.1, Bags.imp k h.2⟩
  | [], _ :: _, h => h.elim
  | _ :: _, [], h => h.elim
theorem Bags.ex {H H' : Hp} {vs : List V} {bs : List (List Str)} (e : Evl.Ex H H') (h : Bags H vs bs) : Bags H' vs bs := h.imp fun _ _ k => k.ex e
theorem Bags.put {H : Hp} {vs : List V} {bs : List (List Str)} {p : Addr} {xs : List V} {o : HO} (hp : H p = some (.lst xs)) (h : Bags H vs bs) : Bags (upd H p o) vs bs := h.imp fun _ _ k => k.put hp
theorem Bags.append {H : Hp} : ∀ {vs ws : List V} {bs cs : List (List Str)}, Bags H vs bs → Bags H ws cs → Bags H (vs ++ ws) (bs ++ cs)
  | [], _, [], _, _, h => h
  | _ :: _, _, _ :: _, _, h, k => ⟨h.1, Bags.append h.2 k⟩
  | [], _, _ :: _, _, h, _ => h.elim
  | _ :: _, _, [], _, h, _ => h.elim
theorem Bags.len {H : Hp} : ∀ {vs : List V} {bs : List (List Str)}, Bags H vs bs → vs.length = bs.length
  | [], [], _ => rfl
  | _ :: _, _ :: _, h => by rw [List.length_cons, List.length_cons, Bags.len h.2]
  | [], _ :: _, h => h.elim
  | _ :: _, [], h => h.elim
theorem Bags.at {H : Hp} : ∀ {vs : List V} {bs : List (List Str)} {i : Nat} {v : V}, Bags H vs bs → vs[i]? = some v → ∃ b, bs[i]? = some b ∧ BagAt H v b
  | [], [], _, _, _, h => by cases h
  | _ :: _, b :: _, 0, _, h, e => by
    cases e
    exact ⟨b, rfl, h.1⟩
  | _ :: _, _ :: _, i + 1, _, h, e => Bags.at (i := i) h.2 (by simpa using e)
  | [], _ :: _, _, _, h, _ => h.elim
  | _ :: _, [], _, _, h, _ => h.elim
def bagsD (bs : List (List Str)) : PyData := .list (bs.map fun b => .tuple (b.map PyData.str))
theorem Bags.dp {K : PySem.W.Frag} {H : Hp} {p : Addr} {vs : List V} {bs : List (List Str)} (hp : SqL K H p vs) (h : Bags H vs bs) : Dp K H (.ref p) (bagsD bs) := by
  refine .lst hp ?_
  clear hp
  induction vs generalizing bs with
  | nil =>
    cases bs with
    | nil => exact .nil
    | cons _ _ => exact h.elim
  | cons v vs ih =>
    cases bs with
    | nil => exact h.elim
    | cons b bs =>
      obtain ⟨a, rfl, ha⟩ := h.1
      exact .cons (dp_strsT (Evl.st_of ha)) (ih h.2)
theorem bagsD_good {bs : List (List Str)} (h : ∀ b ∈ bs, ∀ z ∈ b, SOk z) : GoodD 2 (bagsD bs) := good_list fun d hd => by
  obtain ⟨b, hb, rfl⟩ := List.mem_map.mp hd
  exact good_strsT (h b hb)
/-! ### [elt for x in list for y in tuple if test]: what comes is told by dat -/
section
open Evl
variable {K : PySem.W.Frag} {σ : L2.St} {H1 : Hp} {tt1 : TT} {te : TE} {tl tr : TE}
theorem lc2_bags {a b : Addr} {xs ys : List V} {jx jy : Nat} {vs vs1 : List Nat} (t : Nat → Nat → Bool) (d : Nat → Nat → List Str) (dat : Nat → Nat → List (List Str))
    (h : Ev tl σ H1 (.ref a)) (hx : SqL K H1 a xs) (hy : SqT K H1 b ys) (h00 : dat 0 0 = []) (hsx : ∀ i j, dat i (j + 1) = dat i j ++ if t i j = true then [d i j] else []) (hnx : ∀ i, i < xs.length → dat (i + 1) 0 = dat i ys.length) (hsm : ∀ i j, i ≤ xs.length → j ≤ ys.length → (dat i j).length ≤ 50000)
    (hw : ∀ x, wipe ((wipe σ vs).set jx (some x)) vs = wipe σ vs) (hw1 : ∀ x y, wipe ((wipe ((wipe σ vs).set jx (some x)) vs1).set jy (some y)) vs1 = wipe ((wipe σ vs).set jx (some x)) vs1)
    (hr : ∀ x H', Ex H1 H' → Ev tr ((wipe σ vs).set jx (some x)) H' (.ref b))
    (hT : ∀ i j x y H', xs[i]? = some x → ys[j]? = some y → Ex H1 H' → EvT tt1 ((wipe ((wipe σ vs).set jx (some x)) vs1).set jy (some y)) H' (t i j))
    (hE : ∀ i j x y H', xs[i]? = some x → ys[j]? = some y → Ex H1 H' → t i j = true → ∀ Q : VK, (∀ v H2, Ex H' H2 → BagAt H2 v (d i j) → Q v H2) → te ((wipe ((wipe σ vs).set jx (some x)) vs1).set jy (some y)) H' Q)
    {Q : VK} (k : ∀ p acc H', H1 p = none → Ex H1 H' → H' p = some (.lst acc) → Bags H' acc (dat xs.length 0) → Q (.ref p) H') :
    tLc2 (iList K tl) (gName jx) tYes (iTup K tr) (gName jy) tt1 te vs vs1 σ H1 Q := by
  refine h H1 (Ex.refl _) _ fun H2 e2 => ⟨a, rfl, ⟨xs, ex_l e2 hx⟩, fun D nD => ?_⟩
  have nD1 : H1 D = none := fresh_back e2 nD
  -- the word of the outer loop
  let Pv : Nat → Nat → Hp → Prop := fun i j H' => Ex H1 H' ∧ ∃ acc, H' D = some (.lst acc) ∧ Bags H' acc (dat i j)
  refine ⟨fun i m H' => m = xs.length - i ∧ i ≤ xs.length ∧ Pv i 0 H', ⟨xs.length, by simp, Nat.zero_le _, e2.trans (Ex.new nD), [], upd_same, by rw [h00]; trivial⟩, ?_⟩
  rintro i m H' ⟨rfl, hi, e', acc, hD, hB⟩
  by_cases hlt : i < xs.length
  · refine .inr ⟨⟨xs, xs[i], ex_l e' hx, by simp [hlt]⟩, Pv (i + 1) 0, fun H3 p => ⟨xs.length - (i + 1), by omega, rfl, hlt, p⟩, fun x H3 y => ?_⟩
    obtain ⟨rfl, hy2⟩ := y
    have hxi : xs[i]? = some x := hy2 xs (ex_l e' hx)
    refine ⟨hw x, ?_⟩
    unfold tYes
    simp only [if_true]
    refine hr x H3 e' H3 (Ex.refl _) _ fun H4 e4 => ⟨b, rfl, ⟨ys, ex_t (e'.trans e4) hy⟩, ?_⟩
    refine ⟨fun j m H' => m = ys.length - j ∧ j ≤ ys.length ∧ Pv i j H', ⟨ys.length, by simp, Nat.zero_le _, e'.trans e4, acc, e4 _ _ hD, hB.ex e4⟩, ?_⟩
    rintro j m H5 ⟨rfl, hj, e5, acc5, hD5, hB5⟩
    by_cases hjt : j < ys.length
    · refine .inr ⟨⟨ys, ys[j], ex_t e5 hy, by simp [hjt]⟩, Pv i (j + 1), fun H6 p => ⟨ys.length - (j + 1), by omega, rfl, hjt, p⟩, fun y H6 z => ?_⟩
      obtain ⟨rfl, hz2⟩ := z
      have hyj : ys[j]? = some y := hz2 ys (ex_t e5 hy)
      refine ⟨hw1 x y, ?_⟩
      refine hT i j x y H6 hxi hyj e5 H6 (Ex.refl _) _ fun H7 e7 => ?_
      cases ht : t i j with
      | true =>
        rw [if_pos rfl]
        refine hE i j x y H7 hxi hyj (e5.trans e7) ht _ fun v H8 e8 hv => ?_
        have hD8 := (e7.trans e8) _ _ hD5
        have hB8 := hB5.ex (e7.trans e8)
        refine ⟨acc5, hD8, sz_lt (by rw [hB5.len]; have := hsm i j hi hj; omega), (((e5.trans e7).trans e8)).mut nD1, _, upd_same, ?_⟩
        rw [hsx, ht, if_pos rfl]
        exact (Bags.append (ws := [v]) (cs := [d i j]) hB8 ⟨hv, trivial⟩).put hD8
      | false =>
        rw [if_neg (by simp)]
        refine ⟨e5.trans e7, acc5, e7 _ _ hD5, ?_⟩
        rw [hsx, ht, if_neg (by simp), List.append_nil]
        exact hB5.ex e7
    · have ej : j = ys.length := by omega
      subst ej
      refine .inl ⟨⟨ys, ex_t e5 hy, Nat.le_refl _⟩, e5, acc5, hD5, ?_⟩
      rw [hnx i hlt]
      exact hB5
  · have ei : i = xs.length := by omega
    subst ei
    exact .inl ⟨⟨xs, ex_l e' hx, Nat.le_refl _⟩, k D acc H' nD1 e' hD hB⟩
end
end Lw

namespace Lw
open PySem PySem.Spec PyProof.Rows L2
/-! ### rules whose written part is told, for blocks -/
section
variable {X : Cx}
theorem k_catA (K : PySem.W.Frag) (h : X.K = K := by rfl) : OpR X (binaryOp .Add) (rCatA K) := h ▸ op_catA
theorem k_ixT (K : PySem.W.Frag) (h : X.K = K := by rfl) : IxR X (rIxT K) := h ▸ ix_tup
theorem k_ixL (K : PySem.W.Frag) (h : X.K = K := by rfl) : IxR X (rIxL K) := h ▸ ix_list
theorem k_len (K : PySem.W.Frag) (h : X.K = K := by rfl) : CallR X (.builtin "len") (fun xs H Q => ∃ p ys, xs = [.ref p] ∧ (SqL K H p ys ∨ SqT K H p ys) ∧ Q (.int ys.length) H) := h ▸ call_len_seq
theorem k_listof (K : PySem.W.Frag) (h : X.K = K := by rfl) : CallR X (.type "list") (fun xs H Q => ∃ p ys, xs = [.ref p] ∧ (SqL K H p ys ∨ SqT K H p ys) ∧ ∀ l, H l = none → Q (.ref l) (upd H l (.lst ys))) := h ▸ call_list_of
theorem k_piT {tg l : Expr} {tl : TE} (K : PySem.W.Frag) (hl : PE X l tl) (h : X.K = K := by rfl) : PI X tg l (iTup K tl) := h ▸ pi_tup hl
theorem k_piL {tg l : Expr} {tl : TE} (K : PySem.W.Frag) (hl : PE X l tl) (h : X.K = K := by rfl) : PI X tg l (iList K tl) := h ▸ pi_list hl
theorem k_truth {a : Expr} {ta : TE} (K : PySem.W.Frag) (ha : PE X a ta) (he : ∀ whole, isTrue a X.env whole = (do let v ← whole; standAt a.pos; holding [v] (truthy v))) (h : X.K = K := by rfl) :
    PT X a (fun σ H Q => ta σ H fun x H' => ∃ k, TruV K x H' k ∧ Q k H') := h ▸ pt_truth ha he
end
/-! ### in, over data of a list or a tuple -/
def rInDS (K : PySem.W.Frag) (neg : Bool) : R2 := fun x y H Q => ∃ d ds, Dp K H x d ∧ (Dp K H y (.list ds) ∨ Dp K H y (.tuple ds)) ∧ SeqAt.shaped d = true ∧ SeqAt.shaped (.list ds) = true ∧ Q (.bl (if neg = true then !(ds.any fun z => PyData.eqv z d) else ds.any fun z => PyData.eqv z d)) H
theorem k_inD {X : Cx} (K : PySem.W.Frag) (hu : X.A.units + 65 < cLine) (h : X.K = K := by rfl) : OpR X (compareOp .In) (rInDS K false) := by
  subst h
  intro pins s σ H x y v u Q I rx ry h
  obtain ⟨d, ds, hd, he, sd, se, q⟩ := h
  obtain ⟨as, r1⟩ := Dp.reads I d x v hd rx
  have s1 := SeqAt.canLay_of_shaped se
  rcases he with he | he
  · obtain ⟨bs, r2⟩ := Dp.reads I (.list ds) y u he ry
    exact SeqAt.in_list_reads r2 r1 s1 (SeqAt.canLay_of_shaped sd) (room_in_shaped sd hu) ⟨.bl _, H, I, rfl, q⟩
  · obtain ⟨bs, r2⟩ := Dp.reads I (.tuple ds) y u he ry
    exact SeqAt.in_tuple_reads r2 r1 s1 (SeqAt.canLay_of_shaped sd) (room_in_shaped sd hu) ⟨.bl _, H, I, rfl, q⟩
theorem room65 {k : Nat} {A : Around} (r : Room k A) : A.units + 65 < cLine := by
  have := r.un
  omega
/-! ### the rows of the next layer -/
def okI (b : List Nat) (j : Nat) : Bool := b.isEmpty || decide (b.getLastD 0 < j)
def rowI (j : Nat) (b : List Nat) : List (List Nat) := ((List.range j).filter (okI b)).map fun g => b ++ [g]
def datI (n : Nat) (L : List (List Nat)) (i j : Nat) : List (List Nat) := (L.take i).flatMap (rowI n) ++ rowI j (L.getD i [])
theorem row_succ (j : Nat) (b : List Nat) : rowI (j + 1) b = rowI j b ++ if okI b j = true then [b ++ [j]] else [] := by
  unfold rowI
  rw [List.range_succ, List.filter_append, List.map_append]
  congr 1
  by_cases h : okI b j = true
  · rw [if_pos h, List.filter_cons_of_pos h]
    rfl
  · rw [if_neg h, List.filter_cons_of_neg h]
    rfl
theorem dat_succ (n : Nat) (L : List (List Nat)) (i j : Nat) : datI n L i (j + 1) = datI n L i j ++ if okI (L.getD i []) j = true then [L.getD i [] ++ [j]] else [] := by
  unfold datI
  rw [row_succ, List.append_assoc]
theorem dat_next (n : Nat) (L : List (List Nat)) (i : Nat) (hi : i < L.length) : datI n L (i + 1) 0 = datI n L i n := by
  unfold datI
  rw [List.take_add_one, List.getElem?_eq_getElem hi, List.flatMap_append, List.getD_eq_getElem?_getD (l := L) (i := i), List.getElem?_eq_getElem hi]
  simp [rowI]
theorem dat_end (n : Nat) (L : List (List Nat)) : datI n L L.length 0 = nextI n L := by
  unfold datI nextI
  rw [List.take_length]
  have : rowI 0 (L.getD L.length []) = [] := rfl
  rw [this, List.append_nil]
  rfl
theorem row_len (j : Nat) (b : List Nat) : (rowI j b).length ≤ j := by
  unfold rowI
  rw [List.length_map]
  exact Nat.le_trans (List.length_filter_le _ _) (by rw [List.length_range]; exact Nat.le_refl _)
theorem flat_len {α β : Type} (f : α → List β) (c : Nat) : ∀ l : List α, (∀ b ∈ l, (f b).length ≤ c) → (l.flatMap f).length ≤ c * l.length
  | [], _ => by simp
  | x :: l, h => by
    rw [List.flatMap_cons, List.length_append, List.length_cons, Nat.mul_succ]
    have h1 := h x List.mem_cons_self
    have h2 := flat_len f c l fun b hb => h b (List.mem_cons_of_mem _ hb)
    omega
theorem dat_len (n : Nat) (L : List (List Nat)) (i j : Nat) : (datI n L i j).length ≤ n * L.length + j := by
  unfold datI
  rw [List.length_append]
  have h1 := flat_len (rowI n) n (L.take i) fun b _ => row_len n b
  have h2 := row_len j (L.getD i [])
  have h3 : n * (L.take i).length ≤ n * L.length := Nat.mul_le_mul_left n (by rw [List.length_take]; omega)
  omega
theorem at_last {ws : List Str} {b : List Nat} (h : b ≠ []) : atI ((bagI ws b).map V.str) (-1) = some (.str (fI ws (b.getLastD 0))) := by
  have hl : 0 < b.length := List.length_pos_iff.mpr h
  unfold atI ixN
  have n1 : ¬ (0 : Int) ≤ -1 := by omega
  have n2 : -(((bagI ws b).map V.str).length : Int) ≤ -1 := by
    unfold bagI
    simp only [List.length_map]
    omega
  rw [if_neg n1, if_pos n2]
  have e : ((-1 : Int) + (((bagI ws b).map V.str).length : Int)).toNat = b.length - 1 := by
    unfold bagI
    simp only [List.length_map]
    omega
  rw [e]
  show ((bagI ws b).map V.str)[b.length - 1]? = _
  unfold bagI
  rw [List.getElem?_map, List.getElem?_map, List.getElem?_eq_getElem (by omega : b.length - 1 < b.length)]
  simp only [Option.map_some]
  congr 3
  rw [List.getLastD_eq_getLast?, List.getLast?_eq_getElem?, List.getElem?_eq_getElem (by omega : b.length - 1 < b.length)]
  rfl
end Lw

namespace Lw
open PySem PySem.Spec PyProof.Rows L2
open PySem.W (dataLe dataLe_str rowLt dataLt dataLt_tuple dataLt_cons dataLt_int dataLt_str alike alikeAll)
/-! ### items of a list, each told by a relation -/
def Rels {α : Type} (R : Hp → V → α → Prop) (H : Hp) : List V → List α → Prop
  | [], [] => True
  | v :: vs, b :: bs => R H v b ∧ Rels R H vs bs
  | _, _ => False
section
variable {α : Type} {R S : Hp → V → α → Prop}
theorem Rels.imp {H H' : Hp} (k : ∀ v b, R H v b → S H' v b) : ∀ {vs : List V} {bs : List α}, Rels R H vs bs → Rels S H' vs bs
  | [], [], _ => trivial
  | _ :: _, _ :: _, h => ⟨k _ _ h.1, Rels.imp k h.2⟩
  | [], _ :: _, h => h.elim
  | _ :: _, [], h => h.elim
theorem Rels.append {H : Hp} : ∀ {vs ws : List V} {bs cs : List α}, Rels R H vs bs → Rels R H ws cs → Rels R H (vs ++ ws) (bs ++ cs)
  | [], _, [], _, _, h => h
  | _ :: _, _, _ :: _, _, h, k => ⟨h.1, Rels.append h.2 k⟩
  | [], _, _ :: _, _, h, _ => h.elim
  | _ :: _, _, [], _, h, _ => h.elim
theorem Rels.len {H : Hp} : ∀ {vs : List V} {bs : List α}, Rels R H vs bs → vs.length = bs.length
  | [], [], _ => rfl
  | _ :: _, _ :: _, h => by rw [List.length_cons, List.length_cons, Rels.len h.2]
  | [], _ :: _, h => h.elim
  | _ :: _, [], h => h.elim
theorem Rels.at {H : Hp} : ∀ {vs : List V} {bs : List α} {i : Nat} {v : V}, Rels R H vs bs → vs[i]? = some v → ∃ b, bs[i]? = some b ∧ R H v b
  | [], [], _, _, _, h => by cases h
  | _ :: _, b :: _, 0, _, h, e => by
    cases e
    exact ⟨b, rfl, h.1⟩
  | _ :: _, _ :: _, i + 1, _, h, e => Rels.at (i := i) h.2 (by simpa using e)
  | [], _ :: _, _, _, h, _ => h.elim
  | _ :: _, [], _, _, h, _ => h.elim
theorem Rels.map {β : Type} {g : β → α} {T : Hp → V → β → Prop} {H : Hp} (k : ∀ v b, T H v b ↔ R H v (g b)) : ∀ {vs : List V} {bs : List β}, Rels T H vs bs ↔ Rels R H vs (bs.map g)
  | [], [] => Iff.rfl
  | _ :: _, _ :: _ => and_congr (k _ _) (Rels.map k)
  | [], _ :: _ => Iff.rfl
  | _ :: _, [] => Iff.rfl
theorem Rels.zip_mem {H : Hp} : ∀ {vs : List V} {bs : List α}, Rels R H vs bs → ∀ q ∈ vs.zip bs, R H q.1 q.2
  | [], _, _, q, h => by simp at h
  | _ :: _, [], _, q, h => by simp at h
  | v :: vs, b :: bs, k, q, h => by
    rw [List.zip_cons_cons] at h
    rcases List.mem_cons.mp h with rfl | h
    · exact k.1
    · exact Rels.zip_mem k.2 q h
theorem bags_rels {H : Hp} : ∀ {vs : List V} {bs : List (List Str)}, Bags H vs bs ↔ Rels BagAt H vs bs
  | [], [] => Iff.rfl
  | _ :: _, _ :: _ => and_congr Iff.rfl bags_rels
  | [], _ :: _ => Iff.rfl
  | _ :: _, [] => Iff.rfl
end
section
open Evl
variable {K : PySem.W.Frag} {σ : L2.St} {H1 : Hp} {te : TE}
/-- [elt for x in a list], each item told -/
theorem lc1_rels {α : Type} {R : Hp → V → α → Prop} (Rex : ∀ {H H' : Hp} {v : V} {b : α}, Ex H H' → R H v b → R H' v b) (Rput : ∀ {H : Hp} {p : Addr} {xs : List V} {o : HO} {v : V} {b : α}, H p = some (.lst xs) → R H v b → R (upd H p o) v b)
    {a : Addr} {xs : List V} {j : Nat} {vs : List Nat} (ds : List α) (hx : SqL K H1 a xs) (hl : ds.length = xs.length) (hz : xs.length ≤ 50000) (hw : ∀ x, wipe ((wipe σ vs).set j (some x)) vs = wipe σ vs)
    (hE : ∀ (i : Nat) (x : V) (d : α) (H' : Hp), xs[i]? = some x → ds[i]? = some d → Ex H1 H' → ∀ Q : VK, (∀ v H2, Ex H' H2 → R H2 v d → Q v H2) → te ((wipe σ vs).set j (some x)) H' Q)
    {Qd : Addr → Hp → Prop} (k : ∀ p acc H', H1 p = none → Ex H1 H' → H' p = some (.lst acc) → Rels R H' acc ds → Qd p H') :
    ∀ D, H1 D = none → ∃ W : Nat → Nat → Hp → Prop, (∃ m, W 0 m (upd H1 D (.lst []))) ∧ ∀ i m H, W i m H →
      ((Itl K a).stop i H ∧ Qd D H) ∨ ((Itl K a).go i H ∧ ∃ Nx : Hp → Prop, (∀ H', Nx H' → ∃ m', m' < m ∧ W (i + 1) m' H') ∧ ∀ x H', (Itl K a).yld i H x H' → gName j x (wipe σ vs) H' fun σ2 H2 => wipe σ2 vs = wipe σ vs ∧ tYes σ2 H2 fun b H3 =>
        if b = true then te σ2 H3 fun y H4 => ∃ acc, H4 D = some (.lst acc) ∧ acc.length < sizeLine ∧ Nx (upd H4 D (.lst (acc ++ [y]))) else Nx H3) := fun D nD => by
  refine lc_it (walk_list (xs := xs)) (fun i H' => Ex H1 H' ∧ ∃ acc, H' D = some (.lst acc) ∧ Rels R H' acc (ds.take i)) ⟨Ex.new nD, [], upd_same, trivial⟩ (fun i H' _ p => ex_l p.1 hx) (fun i x H' H2 hi ⟨e, acc, hD, hB⟩ y => ?_) (fun H' ⟨e, acc, hD, hB⟩ => ?_)
  · obtain ⟨rfl, hxi⟩ := y
    refine ⟨hw x, ?_⟩
    unfold tYes
    simp only [if_true]
    obtain ⟨d, hd⟩ : ∃ d, ds[i]? = some d := ⟨_, List.getElem?_eq_getElem (by omega : i < ds.length)⟩
    refine hE i x d H2 hxi hd e _ fun v H3 e3 hv => ?_
    have hD3 := e3 _ _ hD
    refine ⟨acc, hD3, sz_lt (by rw [hB.len, List.length_take]; omega), (e.trans e3).mut nD, _, upd_same, ?_⟩
    rw [List.take_add_one, hd]
    exact (Rels.append (ws := [v]) (cs := [d]) (hB.imp fun _ _ h => Rex e3 h) ⟨hv, trivial⟩).imp fun _ _ h => Rput hD3 h
  · rw [← hl, List.take_length] at hB
    exact k D acc H' nD e hD hB
end
section
open Evl
theorem eu_tupof {K : PySem.W.Frag} {σ : L2.St} {H : Hp} {xs : List V} {tl : TE} (h : EvL tl σ H xs) : EvU (tCB (fun xs H Q => ∃ p ys, xs = [.ref p] ∧ ((SqL K H p ys ∧ ∀ l, H l = none → Q (.ref l) (upd H l (.tup ys))) ∨ (SqT K H p ys ∧ Q (.ref p) H))) (tCons tl tNil)) σ H xs := fun H1 e Q q =>
  h H1 e _ fun p H2 np e2 hp => ⟨p, xs, rfl, .inl ⟨sq_of hp, fun l nl => q l _ (fresh_back e2 nl) (e2.trans (Ex.new nl)) upd_same⟩⟩
theorem el_listof {K : PySem.W.Frag} {σ : L2.St} {H : Hp} {a : Addr} {xs : List V} {te : TE} (h : Ev te σ H (.ref a)) (hx : SqL K H a xs ∨ SqT K H a xs) : EvL (tCB (fun xs H Q => ∃ p ys, xs = [.ref p] ∧ (SqL K H p ys ∨ SqT K H p ys) ∧ ∀ l, H l = none → Q (.ref l) (upd H l (.lst ys))) (tCons te tNil)) σ H xs := fun H1 e Q q =>
  h H1 e _ fun H2 e2 => ⟨a, xs, rfl, hx.elim (fun h => .inl (ex_l (e.trans e2) h)) (fun h => .inr (ex_t (e.trans e2) h)), fun l nl => q l _ (fresh_back e2 nl) (e2.trans (Ex.new nl)) upd_same⟩
end
/-! ### the order of bundles -/
theorem alike_strs : ∀ xs ys : List Str, alikeAll (xs.map PyData.str) (ys.map PyData.str) = true
  | [], _ => rfl
  | _ :: _, [] => rfl
  | _ :: xs, _ :: ys => by
    rw [List.map_cons, List.map_cons, alikeAll, alike_strs xs ys]
    rfl
theorem row_nil : rowLt [] [] = false := by
  unfold rowLt
  decide +kernel
theorem row_bag {ws : List Str} (hI : Inc ws) : ∀ {a b : List Nat}, (∀ i ∈ a, i < ws.length) → (∀ i ∈ b, i < ws.length) → rowLt ((bagI ws a).map PyData.str) ((bagI ws b).map PyData.str) = decide (a < b)
  | [], [], _, _ => by
    rw [show rowLt ((bagI ws []).map PyData.str) ((bagI ws []).map PyData.str) = false from row_nil]
    simp
  | [], y :: b, _, _ => by
    have e : rowLt [] (PyData.str (fI ws y) :: (bagI ws b).map PyData.str) = true := by
      unfold rowLt
      rw [PySem.W.toks_all_cons]
      simp only [PySem.W.keyToksAll]
      rw [lex_diff (O := itemOrd) (by simp)]
      rfl
    simpa [bagI] using e
  | x :: a, [], _, _ => by
    have e : rowLt (PyData.str (fI ws x) :: (bagI ws a).map PyData.str) [] = false := by
      unfold rowLt
      rw [PySem.W.toks_all_cons]
      simp only [PySem.W.keyToksAll]
      rw [lex_diff (O := itemOrd) (by simp)]
      rfl
    simpa [bagI] using e
  | x :: a, y :: b, ha, hb => by
    have e : rowLt ((bagI ws (x :: a)).map PyData.str) ((bagI ws (y :: b)).map PyData.str) = if fI ws x = fI ws y then rowLt ((bagI ws a).map PyData.str) ((bagI ws b).map PyData.str) else decide ((fI ws x).cps.toList < (fI ws y).cps.toList) := by
      show rowLt (.str (fI ws x) :: (bagI ws a).map PyData.str) (.str (fI ws y) :: (bagI ws b).map PyData.str) = _
      unfold rowLt
      rw [dataLt_cons (by simp [alike]), dataLt_str]
      simp only [PyData.eqv, beq_iff_eq]
    have hx := ha x List.mem_cons_self
    have hy := hb y List.mem_cons_self
    rw [e]
    by_cases h : x = y
    · rw [if_pos (by rw [h]), row_bag hI (fun i hi => ha i (List.mem_cons_of_mem _ hi)) (fun i hi => hb i (List.mem_cons_of_mem _ hi))]
      simp [h, List.cons_lt_cons_iff]
    · rw [if_neg fun z => h (inc_inj hI hx hy z)]
      simp only [inc_lt hI hx hy]
      simp [h, List.cons_lt_cons_iff]
/-- a pair of a length and a bundle -/
def PairAt (ws : List Str) (H : Hp) (v : V) (b : List Nat) : Prop := ∃ t ax, v = .ref t ∧ H t = some (.tup [.int (b.length : Int), .ref ax]) ∧ H ax = some (.tup ((bagI ws b).map V.str))
theorem PairAt.ex {ws : List Str} {H H' : Hp} {v : V} {b : List Nat} (e : Evl.Ex H H') (h : PairAt ws H v b) : PairAt ws H' v b := by
  obtain ⟨t, ax, h1, h2, h3⟩ := h
  exact ⟨t, ax, h1, e _ _ h2, e _ _ h3⟩
theorem PairAt.put {ws : List Str} {H : Hp} {v : V} {b : List Nat} {p : Addr} {xs : List V} {o : HO} (hp : H p = some (.lst xs)) (h : PairAt ws H v b) : PairAt ws (upd H p o) v b := by
  obtain ⟨t, ax, h1, h2, h3⟩ := h
  refine ⟨t, ax, h1, (upd_ne fun z => ?_).trans h2, (upd_ne fun z => ?_).trans h3⟩
  · rw [z, hp] at h2
    cases h2
  · rw [z, hp] at h3
    cases h3
/-! ### sorted pairs of a length and a bundle -/
def pairD (ws : List Str) (b : List Nat) : PyData := .tuple [.int (b.length : Int), .tuple ((bagI ws b).map PyData.str)]
theorem lt_pair {ws : List Str} (hI : Inc ws) {a b : List Nat} (ha : ∀ i ∈ a, i < ws.length) (hb : ∀ i ∈ b, i < ws.length) : dataLt (pairD ws a) (pairD ws b) = ltI a b := by
  unfold pairD
  rw [dataLt_tuple, dataLt_cons (by simp [alike]), dataLt_int, dataLt_cons (by simpa [alike] using alike_strs _ _)]
  have h1 : dataLt (.tuple ((bagI ws a).map PyData.str)) (.tuple ((bagI ws b).map PyData.str)) = decide (a < b) := by
    rw [dataLt_tuple]
    exact row_bag hI ha hb
  rw [h1, eqv_strsT]
  unfold ltI
  by_cases hl : a.length = b.length
  · have : PyData.eqv (.int (a.length : Int)) (.int (b.length : Int)) = true := by simp [PyData.eqv, hl]
    rw [if_pos this]
    by_cases hab : bagI ws a = bagI ws b
    · rw [if_pos (by rw [hab]; exact decide_eq_true rfl)]
      have e := bag_inj hI ha hb hab
      subst e
      rw [show PyProof.Rows.lexLt itemOrd (PySem.W.keyToksAll []) (PySem.W.keyToksAll []) = false from row_nil]
      simp
    · rw [if_neg (by rw [decide_eq_false hab]; simp)]
      simp [hl]
  · have : PyData.eqv (.int (a.length : Int)) (.int (b.length : Int)) = false := by
      simp only [PyData.eqv]
      exact beq_false_of_ne (by omega)
    rw [if_neg (by rw [this]; simp)]
    simp [hl]
theorem sort_pairs {ws : List Str} (hI : Inc ws) (hn : ws.length < 6) {γ : Type} (l : List (γ × List Nat)) (hl : l.map (·.2) = fndI ws.length) : (l.mergeSort (dataLe false fun q => pairD ws q.2)).map (·.2) = allI ws.length := by
  have hmem : ∀ q ∈ l, q.2 ∈ fndI ws.length := fun q hq => by
    rw [← hl]
    exact List.mem_map_of_mem hq
  have hin := (fnd_in ws.length hn).2
  obtain ⟨hp, hall⟩ := fnd_at ws.length hn
  have key : (l.mergeSort (dataLe false fun q => pairD ws q.2)).map (fun q => (allI ws.length).idxOf q.2) = (l.map fun q => (allI ws.length).idxOf q.2).mergeSort fun a b => decide (a ≤ b) := List.map_mergeSort fun a ha b hb => by
    show (!dataLt (pairD ws b.2) (pairD ws a.2)) = _
    rw [lt_pair hI (hin _ (hmem b hb)).2 (hin _ (hmem a ha)).2]
    exact fnd_le ws.length hn _ (hmem a ha) _ (hmem b hb)
  have hfst : (l.map fun q => (allI ws.length).idxOf q.2) = (fndI ws.length).map fun b => (allI ws.length).idxOf b := by
    rw [← hl, List.map_map]
    rfl
  have hr : ((fndI ws.length).map fun b => (allI ws.length).idxOf b).mergeSort (fun a b => decide (a ≤ b)) = List.range (allI ws.length).length := by
    refine List.Perm.eq_of_pairwise (le := fun a b : Nat => decide (a ≤ b) = true) (fun a b _ _ h1 h2 => ?_) (List.pairwise_mergeSort (fun a b c h1 h2 => ?_) (fun a b => ?_) _) ?_ ((List.mergeSort_perm _ _).trans (List.isPerm_iff.mp hp))
    · have := of_decide_eq_true h1
      have := of_decide_eq_true h2
      omega
    · have := of_decide_eq_true h1
      have := of_decide_eq_true h2
      exact decide_eq_true (by omega)
    · rcases Nat.le_total a b with h | h <;> simp [h]
    · exact (List.pairwise_le_range).imp fun h => decide_eq_true h
  rw [hfst, hr] at key
  have back : (l.mergeSort (dataLe false fun q => pairD ws q.2)).map (·.2) = ((l.mergeSort (dataLe false fun q => pairD ws q.2)).map (fun q => (allI ws.length).idxOf q.2)).map fun i => (allI ws.length).getD i [] := by
    rw [List.map_map]
    refine List.map_congr_left fun q hq => ?_
    have hq' := hall _ (hmem q ((List.mergeSort_perm l _).mem_iff.mp hq))
    show q.2 = (allI ws.length).getD ((allI ws.length).idxOf q.2) []
    have hlt := List.idxOf_lt_length_iff.mpr hq'
    rw [List.getD_eq_getElem?_getD, List.getElem?_eq_getElem hlt, List.getElem_idxOf hlt]
    rfl
  rw [back, key]
  apply List.ext_getElem?
  intro i
  rw [List.getElem?_map]
  by_cases h : i < (allI ws.length).length
  · rw [List.getElem?_range h, List.getElem?_eq_getElem h, Option.map_some, List.getD_eq_getElem?_getD, List.getElem?_eq_getElem h]
    rfl
  · rw [List.getElem?_eq_none (by simp; omega), List.getElem?_eq_none (by omega)]
    rfl
end Lw

namespace Lw
open PySem PySem.Spec PyProof.Rows L2 HT
/-! ### t[::-1] of a tuple -/
section
variable {prog : Program} {w : World} {A : Around} {E : Value → Shared → Prop} {s : Shared}
theorem adjust_rev (n : Nat) : Builtin.Slice.sliceAdjust none none (-1) (n : Int) = ((n : Int) - 1, -1) := by
  have h1 : ((-1 : Int) < 0) := by omega
  unfold Builtin.Slice.sliceAdjust
  simp only [h1, if_true]
theorem places_rev (n : Nat) : Builtin.Slice.slicePlaces ((n : Int) - 1) (-1) (-1) = n := by
  unfold Builtin.Slice.slicePlaces
  have h1 : ¬ ((-1 : Int) > 0) := by omega
  simp only [h1, if_false]
  have e : (n : Int) - 1 - -1 - 1 = (n : Int) - 1 := by omega
  rw [e, show (- -1 : Int) = 1 from rfl, Int.ediv_one]
  split <;> omega
theorem fm_some {α β : Type} (f : α → Option β) (g : α → β) : ∀ l : List α, (∀ a ∈ l, f a = some (g a)) → l.filterMap f = l.map g
  | [], _ => rfl
  | a :: l, h => by
    rw [List.filterMap_cons, h a List.mem_cons_self, List.map_cons]
    show g a :: l.filterMap f = _
    rw [fm_some f g l fun b hb => h b (List.mem_cons_of_mem _ hb)]
theorem pick_rev (xs : Array Value) : ((List.range xs.size).filterMap fun (k : Nat) => xs[((xs.size : Int) - 1 + (k : Int) * -1).toNat]?).toArray = xs.toList.reverse.toArray := by
  congr 1
  have e : ((List.range xs.size).filterMap fun (k : Nat) => xs[((xs.size : Int) - 1 + (k : Int) * -1).toNat]?) = (List.range xs.size).map fun k => xs.toList.reverse.getD k .none := by
    refine fm_some _ _ _ fun k hk => ?_
    have hk' := List.mem_range.mp hk
    have h2 : ((xs.size : Int) - 1 + (k : Int) * -1).toNat = xs.size - 1 - k := by omega
    rw [h2]
    show xs[xs.size - 1 - k]? = some (xs.toList.reverse.getD k .none)
    rw [List.getD_eq_getElem?_getD, List.getElem?_reverse (by simpa using hk'), Array.length_toList, Array.getElem?_toList, Array.getElem?_eq_getElem (by omega : xs.size - 1 - k < xs.size)]
    rfl
  rw [e]
  apply List.ext_getElem?
  intro i
  rw [List.getElem?_map]
  by_cases h : i < xs.size
  · rw [List.getElem?_range h, Option.map_some, List.getD_eq_getElem?_getD, List.getElem?_eq_getElem (by simpa using h)]
    rfl
  · rw [List.getElem?_eq_none (by simp; omega), List.getElem?_eq_none (by simp; omega)]
    rfl
theorem sliceApplied_rev {sl : Addr} {vl vu vs : Value} {n : Nat} {Q : Int × Int × Nat → Shared → Prop} (hs : s.heap.IsSliceOf sl vl vu vs) (pl : IsPart vl none) (pu : IsPart vu none) (ps : IsPart vs (some (-1)))
    (h : Q ((n : Int) - 1, -1, n) s) : wpAny (model prog w) A (Builtin.Slice.sliceApplied (.ref sl) (pure (n : Int))) Q E s := by
  obtain ⟨os, hos, hcs, hds⟩ := id hs
  unfold Builtin.Slice.sliceApplied Builtin.Slice.sliceFields
  refine wpAny_bind (wpAny_bind (wpAny_field hos hds (x := vl) rfl (wpAny_bind (wpAny_field hos hds (x := vu) rfl (wpAny_bind (wpAny_field hos hds (x := vs) rfl (wpAny_pure ?_)))))))
  refine wpAny_bind (slicePart_ ps ?_)
  show wpAny _ _ (if ((-1 : Int) == 0) = true then _ else _) _ _ s
  rw [if_neg (by decide)]
  refine wpAny_bind (slicePart_ pl (wpAny_bind (slicePart_ pu (wpAny_bind (wpAny_pure ?_)))))
  show wpAny _ _ (match Builtin.Slice.sliceAdjust none none (-1) (n : Int) with | (lo, hi) => pure (lo, (-1 : Int), Builtin.Slice.slicePlaces lo hi (-1))) _ _ s
  rw [adjust_rev]
  show wpAny _ _ (pure ((n : Int) - 1, (-1 : Int), Builtin.Slice.slicePlaces ((n : Int) - 1) (-1) (-1))) _ _ s
  rw [places_rev]
  exact wpAny_pure h
theorem getItem_tuple_rev {t sl : Addr} {items : Array Value} {vl vu vs : Value} {Q : Value → Shared → Prop} (ht : IsTup s.heap t items) (hs : s.heap.IsSliceOf sl vl vu vs) (pl : IsPart vl none) (pu : IsPart vu none) (ps : IsPart vs (some (-1)))
    (h : Q (.ref s.heap.objs.size) { s with heap := s.heap.push { cls := .type "tuple", data := .seq items.toList.reverse.toArray } })
    (hsz : items.size ≤ sizeLine) : wpAny (model prog w) A (getItem (.ref t) (.ref sl)) Q E s := by
  have hok : sizeOk (.seq items.toList.reverse.toArray) := by
    show items.toList.reverse.toArray.size ≤ sizeLine
    rw [List.size_toArray, List.length_reverse, Array.length_toList]
    exact hsz
  obtain ⟨os, hos, hcs, hds⟩ := id hs
  have isS : s.TypeIs (.ref sl) "slice" := ⟨os, hos, hcs⟩
  unfold getItem
  try with_reducible refine wpAny_holding ?_
  first | refine wpAny_bind (wpAny_pure ?_) | skip
  refine wpAny_bind (wpAny_sequenceKey ht.typeIs (by decide) ?_)
  refine wpAny_bind (wpAny_callSpecial?_slot (name := Str.ofString "__getitem__") ht.typeIs PyProof.Rows.slot_tuple_getitem (wpAny_call_entry PyProof.Rows.slot_tuple_getitem ht.typeIs entry_tuple_getitem ?_ (args_tuple_getitem _ _)))
  show wpAny _ _ (Builtin.Tuple.tupleItemsOf (.ref t) >>= _) _ _ s
  refine wpAny_bind (tupleItemsOf_ ht ?_)
  refine wpAny_bind (wpAny_typeOf isS ?_)
  rw [if_pos (by decide)]
  refine wpAny_bind (sliceApplied_rev hs pl pu ps ?_)
  have no : ¬ ((((items.size : Int) - 1 == 0) && ((-1 : Int) == 1) && (items.size == items.size)) = true) := by
    rw [show ((-1 : Int) == 1) = false from by decide, Bool.and_false, Bool.false_and]
    simp
  show wpAny _ _ (if ((((items.size : Int) - 1 == 0) && ((-1 : Int) == 1) && (items.size == items.size)) = true) then _ else _) _ _ s
  rw [if_neg no, pick_rev]
  first
    | exact wpAny_bind (m := Builtin.Tuple.tupleExact _) (wpAny_newObj_type (wpAny_pure ⟨_, rfl, wpAny_pure h⟩) hok)
    | exact wpAny_bind (m := Builtin.Tuple.tupleExact _) (wpAny_newObj_type (wpAny_bind (wpAny_pure (wpAny_pure ⟨_, rfl, wpAny_pure h⟩))) hok)
    | exact wpAny_bind (wpAny_bind (m := Builtin.Tuple.tupleExact _) (wpAny_newObj_type (wpAny_pure (wpAny_pure ⟨_, rfl, wpAny_pure h⟩)) hok))
    | exact wpAny_bind (wpAny_bind (m := Builtin.Tuple.tupleExact _) (wpAny_newObj_type (wpAny_pure ⟨_, rfl, wpAny_pure h⟩) hok))
end
section
variable {X : Cx}
def tRevT (K : PySem.W.Frag) (te : TE) : TE := fun σ H Q => te σ H fun x H1 => ∃ a xs, x = .ref a ∧ SqT K H1 a xs ∧ ∀ p, H1 p = none → Q (.ref p) (upd H1 p (.tup xs.reverse))
theorem pe_revT {e : Expr} {te : TE} {k : Nat} {p1 p2 p3 pos : Pos} (he : PE X e te) : PE X (.Subscript e (.Slice none none (some (.UnaryOp .USub (.Constant (.int 1) k p1) p2)) p3) pos) (tRevT X.K te) := by
  refine ⟨fun pins s σ H Q I h => ?_⟩
  refine Subscript_ (thn (he.run pins s σ H _ I h) fun v s1 ⟨x, H1, I1, r1, q1⟩ => ?_)
  obtain ⟨a, xs, ex, hx, q⟩ := q1
  subst ex
  cases r1
  have hst : PO X (some (.UnaryOp .USub (.Constant (.int 1) k p1) p2)) (tPart (tUn (rU fun i => .int (-i)) (tC (.int 1)))) := po_some (pe_un un_neg pe_int)
  refine wpAny_Slice (thn (po_none.run pins s1 σ H1 (fun o H2 => o = none ∧ H2 = H1) I1 ⟨rfl, rfl⟩) fun vl s2 ⟨l, H2, I2, pl, el, e2⟩ => ?_)
  subst el e2
  refine thn (po_none.run pins s2 σ H2 (fun o H3 => o = none ∧ H3 = H2) I2 ⟨rfl, rfl⟩) fun vu s3 ⟨u, H3, I3, pu, eu, e3⟩ => ?_
  subst eu e3
  refine thn (hst.run pins s3 σ H3 (fun o H4 => o = some (-1) ∧ H4 = H3) I3 ⟨1, rfl, -1, rfl, rfl, rfl⟩) fun vs s4 ⟨o, H4, I4, ps, eo, e4⟩ => ?_
  subst eo e4
  have I5 : Inv X pins σ H4 { s4 with heap := s4.heap.push { cls := .type "slice", data := .fields #[vl, vu, vs] } } := I4.kept (t' := s4.toks) fun b ob q => Heap.get?_push_of_some _ q
  obtain ⟨its, r, tp, hz⟩ := I5.tuple hx
  have hlen := r.length
  show wpAny (model X.prog X.w) X.A (subscriptTail e (.Slice none none (some (.UnaryOp .USub (.Constant (.int 1) k p1) p2)) p3) (.ref a) (.ref s4.heap.objs.size)) (EP X pins σ Q) X.xe { s4 with heap := s4.heap.push { cls := .type "slice", data := .fields #[vl, vu, vs] } }
  refine tail_any (ops := [.ref a, .ref s4.heap.objs.size]) tp.typeIs (PyProof.Rows.slot_tuple_getitem.lookup) ?_ (by with_unfolding_all rfl)
  refine getItem_tuple_rev tp (Heap.IsSliceOf.new _ vl vu vs) pl pu ps ?_ (by rw [List.size_toArray]; omega)
  refine ⟨.ref _, _, I5.laid (t' := s4.toks) (o := .tup xs.reverse) (fun b ob q => Heap.get?_push_of_some _ q) (Nat.le_refl _) ?_, rfl, q _ (I5.hok.fresh (Nat.le_refl _))⟩
  exact ⟨by rw [List.length_reverse]; exact hz, _, r.reverse, ⟨_, Heap.get?_push_size _ rfl, rfl, _, rfl⟩⟩
end
end Lw

namespace Lw
open PySem PySem.Spec PyProof.Rows L2
/-! ### values that stand apart from the state -/
/-- what may stand in a tuple -/
def It1 (st : Addr) (H : Hp) (v : V) : Prop := (∃ z, v = .str z ∧ SOk z) ∨ (∃ i, v = .int i) ∨ v = .non ∨ (∃ a, ∃ zs : List Str, v = .ref a ∧ Ap H st a (.tup (zs.map V.str)) ∧ ∀ z ∈ zs, SOk z) ∨ (∃ a, ∃ zs : List Str, v = .ref a ∧ Ap H st a (.lst (zs.map V.str)) ∧ ∀ z ∈ zs, SOk z)
def It0 (st : Addr) (H : Hp) (v : V) : Prop := (∃ z, v = .str z ∧ SOk z) ∨ (∃ i, v = .int i) ∨ v = .non ∨ (∃ a, ∃ zs : List Str, v = .ref a ∧ Ap H st a (.tup (zs.map V.str)) ∧ ∀ z ∈ zs, SOk z)
theorem It0.to1 {st : Addr} {H : Hp} {v : V} (h : It0 st H v) : It1 st H v := by
  rcases h with h | h | h | h
  · exact .inl h
  · exact .inr (.inl h)
  · exact .inr (.inr (.inl h))
  · exact .inr (.inr (.inr (.inl h)))
theorem It0.kp {st : Addr} {H H' : Hp} {v : V} (k : Kp st H H') (h : It0 st H v) : It0 st H' v := by
  rcases h with h | h | h | ⟨a, zs, h1, h2, h3⟩
  · exact .inl h
  · exact .inr (.inl h)
  · exact .inr (.inr (.inl h))
  · exact .inr (.inr (.inr ⟨a, zs, h1, k _ _ h2, h3⟩))
/-- any value -/
def Cd (st : Addr) (H : Hp) (v : V) : Prop := (∃ a xs, v = .ref a ∧ Ap H st a (.tup xs) ∧ ∀ x ∈ xs, It1 st H x) ∨ (∃ z, v = .str z) ∨ v = .non ∨ (∃ b, v = .bl b) ∨ (∃ i, v = .int i) ∨ (∃ a xs, v = .ref a ∧ Ap H st a (.lst xs)) ∨ (∃ a kvs, v = .ref a ∧ Ap H st a (.dK kvs))
theorem It1.kp {st : Addr} {H H' : Hp} {v : V} (k : Kp st H H') (h : It1 st H v) : It1 st H' v := by
  rcases h with h | h | h | ⟨a, zs, h1, h2, h3⟩ | ⟨a, zs, h1, h2, h3⟩
  · exact .inl h
  · exact .inr (.inl h)
  · exact .inr (.inr (.inl h))
  · exact .inr (.inr (.inr (.inl ⟨a, zs, h1, k _ _ h2, h3⟩)))
  · exact .inr (.inr (.inr (.inr ⟨a, zs, h1, k _ _ h2, h3⟩)))
theorem Cd.kp {st : Addr} {H H' : Hp} {v : V} (k : Kp st H H') (h : Cd st H v) : Cd st H' v := by
  rcases h with ⟨a, xs, h1, h2, h3⟩ | h | h | h | h | ⟨a, xs, h1, h2⟩ | ⟨a, xs, h1, h2⟩
  · exact .inl ⟨a, xs, h1, k _ _ h2, fun x hx => (h3 x hx).kp k⟩
  · exact .inr (.inl h)
  · exact .inr (.inr (.inl h))
  · exact .inr (.inr (.inr (.inl h)))
  · exact .inr (.inr (.inr (.inr (.inl h))))
  · exact .inr (.inr (.inr (.inr (.inr (.inl ⟨a, xs, h1, k _ _ h2⟩)))))
  · exact .inr (.inr (.inr (.inr (.inr (.inr ⟨a, xs, h1, k _ _ h2⟩)))))
theorem It1.dp {K : PySem.W.Frag} {st : Addr} {H : Hp} {v : V} (h : It1 st H v) : ∃ d, Dp K H v d ∧ GoodD 1 d := by
  rcases h with ⟨z, rfl, hz⟩ | ⟨i, rfl⟩ | rfl | ⟨a, zs, rfl, h2, h3⟩ | ⟨a, zs, rfl, h2, h3⟩
  · exact ⟨_, .str z, good_str hz⟩
  · exact ⟨_, .int i, good_int i⟩
  · exact ⟨_, .non, good_none⟩
  · exact ⟨_, dp_strsT (Evl.st_of h2.1), good_strsT h3⟩
  · exact ⟨_, dp_strs (Evl.sq_of h2.1), good_strs h3⟩
theorem its_dp {K : PySem.W.Frag} {st : Addr} {H : Hp} : ∀ {xs : List V}, (∀ x ∈ xs, It1 st H x) → ∃ ds, DpAll K H xs ds ∧ ∀ d ∈ ds, GoodD 1 d
  | [], _ => ⟨[], .nil, fun _ h => by cases h⟩
  | x :: xs, h => by
    obtain ⟨d, h1, h2⟩ := (h x List.mem_cons_self).dp (K := K)
    obtain ⟨ds, h3, h4⟩ := its_dp (K := K) fun y hy => h y (List.mem_cons_of_mem _ hy)
    refine ⟨d :: ds, .cons h1 h3, fun e he => ?_⟩
    rcases List.mem_cons.mp he with rfl | he
    · exact h2
    · exact h4 e he
section
variable {K : PySem.W.Frag} {st a b : Addr} {H : Hp} {n : Nat} {xs ys : List V} {Q : VK}
theorem catA_ap (D : DS H st n) (ha : Ap H st a (.tup xs)) (hb : Ap H st b (.tup ys)) (hl : xs.length + ys.length ≤ 100000) (q : ∀ r H', DS H' st n → Kp st H H' → Ap H' st r (.tup (xs ++ ys)) → Q (.ref r) H') : rCatA K (.ref a) (.ref b) H Q := by
  refine ⟨a, b, xs, ys, rfl, rfl, Evl.st_of ha.1, Evl.st_of hb.1, Evl.sz_of hl, fun h0 => ?_, fun _ h0 => ?_, fun _ _ p np => ?_⟩
  · subst h0
    exact q b H D (Kp.refl _ _) hb
  · subst h0
    refine q a H D (Kp.refl _ _) ?_
    rw [List.append_nil]
    exact ha
  · exact q p _ (D.new np) (D.newK np) (D.fresh np)
theorem slA_ap {k : Nat} (D : DS H st n) (ha : Ap H st a (.tup xs)) (q : ∀ r H', DS H' st n → Kp st H H' → Ap H' st r (.tup (xs.take k)) → Q (.ref r) H') : rSlA K (.ref a) none (some (k : Int)) H Q := by
  refine ⟨a, xs, rfl, Evl.st_of ha.1, fun hw => ?_, fun _ p np => ?_⟩
  · refine q a H D (Kp.refl _ _) ?_
    rw [← cutV_to]
    have : cutV xs none (some (k : Int)) = xs := by
      unfold cutV
      rw [hw.1, hw.2, List.drop_zero, Nat.sub_zero, List.take_of_length_le (Nat.le_refl _)]
    rw [this]
    exact ha
  · rw [cutV_to]
    exact q p _ (D.new np) (D.newK np) (D.fresh np)
end
end Lw

namespace Lw
open PySem PySem.Spec PyProof.Rows L2
open PySem.Froz (SD sObj TxOk addTx tailTx)
/-! ### sets of texts -/
/-- at a: a set that holds the texts l -/
def SetT (P : Program) (w : World) (h : Heap) (a : Addr) (l : List Str) : Prop :=
  ∃ D : SD, h.get? a = some (sObj "set" D) ∧ TxOk P w D l ∧ l.Nodup ∧ Ris D.2.2.place.toList ∧ (w.params.followText "set-order" = true ∨ D.2.2.led = true)
theorem SetT.at {P : Program} {w : World} {h h' : Heap} {a : Addr} {l : List Str} (k : ∀ o, h.get? a = some o → h'.get? a = some o) (R : SetT P w h a l) : SetT P w h' a l := by
  obtain ⟨D, h1, r⟩ := R
  exact ⟨D, k _ h1, r⟩
theorem tail_ris (ep : Nat) (es : Array (Int × Value)) (t : SetTable) (d : Bool) (r : Ris t.place.toList) : Ris (tailTx ep es t d).2.2.place.toList := by
  unfold tailTx
  split
  · exact relayAll_ris _ _ _
  · exact r
theorem tail_led (ep : Nat) (es : Array (Int × Value)) (t : SetTable) (d : Bool) : (tailTx ep es t d).2.2.led = t.led := by
  unfold tailTx
  split
  · exact relayAll_led _ _ _
  · rfl
theorem addTx_ris (z : Int) (v : Value) (D : SD) (r : Ris D.2.2.place.toList) : Ris (addTx z v D).2.2.place.toList := by
  refine tail_ris _ _ _ _ ?_
  have h1 := layNew_ris D.2.2 D.1 z v r
  split
  · exact h1
  · exact h1
theorem addTx_led (z : Int) (v : Value) (D : SD) : (addTx z v D).2.2.led = D.2.2.led := by
  refine (tail_led _ _ _ _).trans ?_
  have h1 := layNew_led D.2.2 D.1 z v
  split
  · exact h1
  · exact h1
section
variable {P : Program} {w : World} {A : Around} {E : Value → Shared → Prop} {s : Shared} {a : Addr} {l : List Str} {k : Str} {u : Tok} {Q : Bool → Shared → Prop}
/-- a text that is there already is added: nothing comes of it -/
theorem old_add {D : SD} (ho : s.heap.get? a = some (sObj "set" D)) (F : TxOk P w D l) (hk : k ∈ l) (hb : l.length < scanBound) (h : Q false s) : wpAny (model P w) A (setAddHashed a (.str k u) (hashStr w k)) Q E s := by
  obtain ⟨es, ep, t⟩ := D
  have hd : (sObj "set" (es, ep, t)).data = .set es ep t := rfl
  have hf : t.fits es.size = true := F.fit
  have hel : ElemsOf (strKind P w) es.toList := F.el
  have hsz : es.size = l.length := F.sz
  have hkey : (strKind P w).is k (.str k u) = true := PySem.Froz.is_str k u
  obtain ⟨e, he, hie⟩ := (F.mem k).mp hk
  unfold setAddHashed setAddHashedIn
  refine wpAny_holding (wpAny_bind (wpAny_setState_of ho hd hf ?_))
  dsimp only
  rw [byScan_of rfl (by omega : es.size < scanBound) hel]
  simp only [↓reduceIte]
  unfold setAddByScan
  refine wpAny_bind (wpAny_bind (wpAny_rule (wpAny_bind (wpAny_setScan_of (knd := strKind P w) (k := k) hkey ho hd hf hel ?_))))
  cases hr : List.findIdx? (fun e => (strKind P w).is k e.2) es.toList with
  | none =>
    have := List.findIdx?_eq_none_iff.mp hr e he
    rw [hie] at this
    cases this
  | some j => exact wpAny_pure (wpAny_pure h)
theorem setT_add (R : SetT P w s.heap a l) (hb : l.length + 1 < scanBound)
    (h : ∀ b h' l', Heap.SameBut a s.heap h' → SetT P w h' a l' → (∀ z, z ∈ l' ↔ z = k ∨ z ∈ l) → l'.length ≤ l.length + 1 → Q b { s with heap := h' }) : wpAny (model P w) A (setAddHashed a (.str k u) (hashStr w k)) Q E s := by
  obtain ⟨D, ho, F, nd, r, hl⟩ := R
  by_cases hk : k ∈ l
  · refine old_add ho F hk (by omega) (h false s.heap l (Heap.SameBut.refl a s.heap) ⟨D, ho, F, nd, r, hl⟩ (fun z => ⟨.inr, fun q => q.elim (fun e => by rw [e]; exact hk) id⟩) (by omega))
  · refine PySem.Froz.add_x ho F hk hb (h true _ (k :: l) (Heap.SameBut.update s.heap a _) ⟨_, PySem.Froz.get_upd _ ho rfl, PySem.Froz.add_ok u F, List.nodup_cons.mpr ⟨hk, nd⟩, addTx_ris _ _ _ r, ?_⟩ (fun z => List.mem_cons) (Nat.le_refl _))
    rw [addTx_led]
    exact hl
end
section
variable {P : Program} {w : World} {A : Around} {I S : Addr} {fp wr : List Addr} {G : Array GenState → Array GenState → Prop} {n : Nat} {Pv : Nat → Value → Prop} {St : Nat → Shared → Prop} {R : Result → Shared → Prop}
/-- the texts of an iterator go into the set -/
theorem set_takes (W : WalksS P w A.in1 I fp wr G n Pv St) (out : S ∉ fp) (ws : List Str) (hn : n = ws.length) (hb : n + 1 < scanBound) (hval : ∀ i v, Pv i v → ∃ k u, ws[i]? = some k ∧ v = .str k u) :
    ∀ (m i : Nat) (s : Shared) (l : List Str), i + m = n → St i s → SetT P w s.heap S l → (∀ z, z ∈ l ↔ z ∈ ws.take i) → l.length ≤ i →
      (∀ s' l', Moved (S :: wr) G s s' → SetT P w s'.heap S l' → (∀ z, z ∈ l' ↔ z ∈ ws) → l'.length ≤ n → R (.ok (.ret .none)) s') →
      codeAny (model P w) A (.builtin "set.update.loop" ⟨[.ref S, .ref I], []⟩) R s := by
  have off : S ∉ wr := fun h => out (W.sub _ h)
  have more : ∀ b ∈ wr, b ∈ S :: wr := fun b h => List.mem_cons_of_mem _ h
  intro m
  induction m with
  | zero =>
    intro i s l hi hst hS hl hc hR
    obtain rfl : i = n := by omega
    refine codeAny_builtin F.entry_set_update_loop ?_
    rw [Around.under_plainId F.plain_set_update_loop _]
    show wpAny _ A.in1 (pyNext (.ref I) >>= _) _ _ s
    refine wpAny_bind (W.done s _ _ hst fun s' hm => wpAny_pure ?_)
    rw [List.take_of_length_le (Nat.le_of_eq hn.symm)] at hl
    exact hR s' l (hm.mono more) (hS.at fun o e => hm.heap S o off e) hl hc
  | succ m ih =>
    intro i s l hi hst hS hl hc hR
    refine codeAny_builtin F.entry_set_update_loop ?_
    rw [Around.under_plainId F.plain_set_update_loop _]
    show wpAny _ A.in1 (pyNext (.ref I) >>= _) _ _ s
    refine wpAny_bind (W.item i s _ _ (by omega) hst fun v s' hP hst' hm => ?_)
    obtain ⟨z, u, hz, rfl⟩ := hval i v hP
    show wpAny _ A.in1 (holding [Value.str z u] (setAdd S (.str z u)) >>= _) _ _ s'
    refine wpAny_bind (wpAny_holding ?_)
    unfold setAdd
    refine wpAny_holding (wpAny_bind ((strKind P w).pyHash (k := z) (PySem.Froz.is_str z u) ?_))
    refine setT_add (s := { s' with toks := s'.toks + 1 }) (l := l) (hS.at fun o e => hm.heap S o off e) (by omega) fun b h' l' sb hS2 hl2 hc2 => ?_
    refine wpAny_pure ⟨plainId_quiet F.plain_set_update_loop _, ih (i + 1) _ l' (by omega) (W.frame _ s' _ _ hst' (Nat.le_succ _) fun b hb o e => (sb.2 b fun q : b = S => out (by rw [← q]; exact hb)).trans e) hS2 (fun y => ?_) (by omega) fun s2 l2 hm2 => ?_⟩
    · rw [hl2 y, hl y, List.take_add_one, hz, List.mem_append]
      simp [or_comm]
    · exact hR s2 l2 (Moved.trans W.gtrans ((hm.mono more).then_heap (Nat.le_succ _) fun b o hb e => (sb.2 b fun q : b = S => hb (by rw [q]; exact List.mem_cons_self)).trans e) hm2)
end
section
variable {P : Program} {w : World} {A : Around} {E : Value → Shared → Prop} {s : Shared}
/-- set(x): the new set, then its __init__ -/
theorem callType_set {x : Value} {Q : Value → Shared → Prop}
    (h : wpAny (model P w) A.in1.in1 (Builtin.«set.__init__» ⟨[.ref s.heap.objs.size, x], []⟩)
        (fun fin s' => match fin with | .done f => wants (fun r s₂ => r = .none ∧ Q (.ref s.heap.objs.size) s₂) E (.ok f) s' | .again c' => c'.quiet = true ∧ codeAny (model P w) A.in1 c' (wants (fun r s₂ => r = .none ∧ Q (.ref s.heap.objs.size) s₂) E) s')
        (fun e s' => wants (fun r s₂ => r = .none ∧ Q (.ref s.heap.objs.size) s₂) E (.error e) s') { s with heap := s.heap.push { cls := .type "set", dict := none, data := .set #[] 0 (.fresh 0 0 (!w.params.followText "set-order")) } }) :
    wpAny (model P w) A (call (.type "set") [x]) Q E s := by
  have ft := F.called_set
  obtain ⟨c, tl, hmro⟩ := ft.mro
  have hmade := ft.made
  have hsub := ft.sub
  have hct := F.typeCall_set_1 x
  refine wpAny_call (codeAny_of_tree ?_)
  show wpAny _ _ (callAny (.type "set") _) _ _ _
  refine wpAny_pure ⟨Code.quiet_builtin _ (by decide +kernel), codeAny_builtin F.entry_type_call ?_⟩
  rw [Around.under_plain (weight_type_call_type "set" [x] []) rfl]
  have h1 := ft.notType
  have h2 := ft.canCreate
  repeat (any_goals (first | assumption | wp_step))
  refine codeAny_mono (code_set_led1 x (E := E) (Q₁ := fun obj s₁ => obj = .ref s.heap.objs.size ∧ s₁ = { s with heap := s.heap.push { cls := .type "set", dict := none, data := .set #[] 0 (.fresh 0 0 (!w.params.followText "set-order")) } }) ⟨rfl, rfl⟩) fun r s₁ hr => ?_
  cases r with
  | error e => exact hr
  | ok fl =>
    cases fl with
    | ret obj =>
      obtain ⟨rfl, rfl⟩ := hr
      have isSet : Shared.TypeIs { s with heap := s.heap.push { cls := .type "set", dict := none, data := .set #[] 0 (.fresh 0 0 (!w.params.followText "set-order")) } } (.ref s.heap.objs.size) "set" := ⟨_, Heap.get?_push_size _ rfl, rfl⟩
      have hli := ft.init.lookup
      have hbi := ft.init.bind (.ref s.heap.objs.size)
      repeat (any_goals (first | assumption | wp_step))
      refine codeAny_mono (codeAny_call_builtin (R := wants (fun r s₂ => r = .none ∧ Q (.ref s.heap.objs.size) s₂) E) ft.init.plain F.entry_set_init (check_set_init_1 isSet h)) fun r2 s2 hr2 => ?_
      cases r2 with
      | error e => exact hr2
      | ok fl2 =>
        cases fl2 with
        | ret r =>
          obtain ⟨rfl, hq⟩ := hr2
          repeat (any_goals (first | assumption | wp_step))
        | _ => exact hr2.elim
    | _ => exact hr.elim
/-- set(list of texts) -/
theorem call_setTx {p : Addr} {items : Array Value} {ws : List Str} {Q : Value → Shared → Prop} (hh : A.handled = none) (hl : s.heap.IsList p items) (hn : items.size = ws.length) (hb : ws.length + 1 < scanBound) (hval : ∀ (i : Nat) (v : Value), items[i]? = some v → ∃ k u, ws[i]? = some k ∧ v = .str k u)
    (h : ∀ (h' : Heap) (tk : Nat) (l : List Str), SetT P w h' s.heap.objs.size l → (∀ z, z ∈ l ↔ z ∈ ws) → l.length ≤ ws.length → (∀ b o, s.heap.get? b = some o → h'.get? b = some o) → Q (.ref s.heap.objs.size) { s with heap := h', toks := tk }) :
    wpAny (model P w) A (call (.type "set") [.ref p]) Q E s := by
  refine callType_set ?_
  have hS : (s.heap.push { cls := .type "set", dict := none, data := .set #[] 0 (.fresh 0 0 (!w.params.followText "set-order")) }).get? s.heap.objs.size = some { cls := .type "set", dict := none, data := .set #[] 0 (.fresh 0 0 (!w.params.followText "set-order")) } := Heap.get?_push_size _ rfl
  obtain ⟨ol, hol, hcl, nl, hdl⟩ := hl
  obtain ⟨ocls, odict, odata, oslots⟩ := ol
  simp only at hcl hdl
  subst hcl
  subst hdl
  have own : (s.heap.push { cls := .type "set", dict := none, data := .set #[] 0 (.fresh 0 0 (!w.params.followText "set-order")) }).get? p = some { cls := .type "list", dict := odict, data := .seq items nl, slots := oslots } := Heap.get?_push_of_some _ hol
  have isL : (s.heap.push { cls := .type "set", dict := none, data := .set #[] 0 (.fresh 0 0 (!w.params.followText "set-order")) }).IsList p items := ⟨_, own, rfl, nl, rfl⟩
  have s1 := F.sub_list_set
  have s2 := F.sub_list_frozenset
  have s3 : (Value.type "list" == Value.type "dict") = false := by decide
  unfold Builtin.«set.__init__» noKeywords Builtin.Frozenset.updateFrom
  generalize hPI : pyIter = PI
  wp_walk
  subst hPI
  refine wpAny_pyIter_list isL ?_
  refine wpAny_bind (wpAny_runValue ?_)
  have lt : p < s.heap.objs.size := Heap.lt_size hol
  have hz : (s.heap.push { cls := .type "set", dict := none, data := .set #[] 0 (.fresh 0 0 (!w.params.followText "set-order")) }).objs.size = s.heap.objs.size + 1 := Heap.size_push ..
  have calm : A.in1.in1.in1.handled = none := by simp [hh]
  have neI : p ≠ (s.heap.push { cls := .type "set", dict := none, data := .set #[] 0 (.fresh 0 0 (!w.params.followText "set-order")) }).objs.size := by
    rw [hz]
    exact Nat.ne_of_lt (Nat.lt_succ_of_lt lt)
  have outS : s.heap.objs.size ∉ [(s.heap.push { cls := .type "set", dict := none, data := .set #[] 0 (.fresh 0 0 (!w.params.followText "set-order")) }).objs.size, p] := by
    rw [hz]
    intro q
    rcases List.mem_cons.mp q with q | q
    · exact absurd q (Nat.ne_of_lt (Nat.lt_succ_self _))
    · exact absurd (List.mem_singleton.mp q) (Nat.ne_of_gt lt)
  refine set_takes ((Walks.list calm _ p neI items).toS) outS ws hn (by omega) hval items.size 0 _ [] (by omega) ⟨⟨_, Heap.get?_push_size _ rfl, rfl, rfl⟩, isL.push _⟩ ⟨(#[], 0, .fresh 0 0 (!w.params.followText "set-order")), Heap.get?_push_of_some _ hS, PySem.Froz.TxOk.nil (by rfl), List.nodup_nil, List.Pairwise.nil, ?_⟩ (fun z => by simp) (Nat.le_refl _) fun s' l' hm hS' hl' hc' => ?_
  · show _ ∨ (!w.params.followText "set-order") = true
    cases w.params.followText "set-order" <;> simp
  · obtain ⟨h', g2, d2, tk2, os2⟩ := s'
    have e1 : g2 = s.gens := hm.gens
    have e2 : d2 = s.drawn := hm.drawn
    have e3 : os2 = s.os := hm.os
    subst e1 e2 e3
    refine wpAny_pure (wpAny_pure ⟨rfl, h h' tk2 l' hS' hl' (by omega) fun b o e => hm.heap b o ?_ (Heap.get?_push_of_some _ (Heap.get?_push_of_some _ e))⟩)
    have lb := Heap.lt_size e
    rw [hz]
    intro q
    rcases List.mem_cons.mp q with q | q
    · exact absurd q (Nat.ne_of_lt lb)
    · exact absurd (List.mem_singleton.mp q) (Nat.ne_of_lt (Nat.lt_succ_of_lt lb))
end
end Lw

namespace Lw
open PySem PySem.Spec PyProof.Rows L2
open PySem.Froz (SD sObj TxOk addTx tailTx)
theorem perm_of_same : ∀ {l bs : List Str}, l.Nodup → (∀ z ∈ l, z ∈ bs) → bs.length ≤ l.length → bs.Perm l
  | [], bs, _, _, h => by
    rw [List.length_eq_zero_iff.mp (Nat.le_zero.mp h)]
  | x :: l, bs, nd, h, hl => by
    obtain ⟨hx, nd'⟩ := List.nodup_cons.mp nd
    have hm := h x List.mem_cons_self
    refine (List.perm_cons_erase hm).trans (List.Perm.cons x (perm_of_same nd' (fun z hz => ?_) ?_))
    · exact (List.mem_erase_of_ne fun e => hx (by rw [← e]; exact hz)).mpr (h z (List.mem_cons_of_mem _ hz))
    · rw [List.length_erase_of_mem hm]
      rw [List.length_cons] at hl
      omega
theorem srt_congr {a b : List Str} (h : a.Perm b) : srt a = srt b := by
  refine List.Perm.eq_of_pairwise (le := fun a b : Str => decide (a.cps.toList ≤ b.cps.toList) = true) (fun x y _ _ h1 h2 => ?_) (srt_sorted a) (srt_sorted b) (((srt_perm a).trans h).trans (srt_perm b).symm)
  exact str_ext (List.le_antisymm (of_decide_eq_true h1) (of_decide_eq_true h2))
theorem isStr_eq {z k : Str} {u : Tok} (h : Value.isStrOf z (.str k u) = true) : z = k := by
  unfold Value.isStrOf at h
  have := eq_of_beq h
  first
    | exact this
    | exact this.symm
/-- the text of a value -/
def strOf : Value → Str
  | .str k _ => k
  | _ => ""
section
open PySem.W PySem.Calls
variable {P : Program} {w : World} {A : Around} {E : Value → Shared → Prop} {s : Shared}
theorem each_str : ∀ {vs : List Value}, (∀ v ∈ vs, ∃ k u, v = .str k u) → EachIs (fun v (z : Str) => ∃ u, v = .str z u) vs (vs.map strOf)
  | [], _ => .nil
  | v :: vs, h => by
    obtain ⟨k, u, rfl⟩ := h v List.mem_cons_self
    exact .cons ⟨u, rfl⟩ (each_str fun y hy => h y (List.mem_cons_of_mem _ hy))
/-- sorted(s), s a set of texts: a new list -/
theorem sorted_setTx {a : Addr} {l : List Str} {Q : Value → Shared → Prop} (R : SetT P w s.heap a l) (hh : A.handled = none) (hb : l.length < 1000) (hu : A.units + 64 < cLine)
    (h : ∀ s' p (out : List Value) (c : Nat), (∀ b o, s.heap.get? b = some o → s'.heap.get? b = some o) → s'.gens = s.gens → s'.os = s.os → s.heap.objs.size ≤ p → s'.heap.get? p = some (seqObj "list" out.toArray c) →
      EachIs (fun v (z : Str) => ∃ u, v = .str z u) out (srt l) → Q (.ref p) s') :
    wpAny (model P w) A (call (.builtin "sorted") [.ref a]) Q E s := by
  obtain ⟨⟨es, ep, t⟩, ho, F, nd, ri, led⟩ := R
  have hsz : es.size = l.length := F.sz
  have hsb : es.size < scanBound := by
    have : (1000 : Nat) < scanBound := by unfold scanBound; decide
    omega
  refine Calls.call_function_entry kind_sorted plain_sorted entry_sorted (args_sorted1 _) ?_
  unfold Builtin.«sorted»
  refine wpAny_bind (m := checkCount "sorted" 1 1 _) (wpAny_pure ?_)
  refine wpAny_bind (collect_set (A := A.in1) hh ⟨_, ho, rfl, rfl⟩ F.fit hsb ri led fun s1 vs k1 hz g1 o1 pm => ?_)
  have isStr : ∀ v ∈ vs, ∃ k u, v = .str k u := fun v hv => by
    obtain ⟨e, he, rfl⟩ := List.mem_map.mp (pm.mem_iff.mp hv)
    obtain ⟨⟨k, hk, _⟩, _⟩ := F.el e he
    have hk' : Value.isStrOf k e.2 = true := hk
    cases hv2 : e.2 with
    | str z u => exact ⟨z, u, rfl⟩
    | _ =>
      rw [hv2] at hk'
      cases hk'
  have hvl : vs.length = l.length := by rw [pm.length_eq, List.length_map, Array.length_toList]; exact hsz
  have pl : (vs.map strOf).Perm l := perm_of_same nd (fun z hz => by
    obtain ⟨e, he, hie⟩ := (F.mem z).mp hz
    have hv := pm.mem_iff.mpr (List.mem_map_of_mem he)
    obtain ⟨k, u, hk⟩ := isStr e.2 hv
    rw [hk] at hie hv
    have : z = k := by
      have h2 : Value.isStrOf z (.str k u) = true := hie
      exact (isStr_eq h2)
    rw [this]
    exact List.mem_map_of_mem (f := strOf) hv) (by rw [List.length_map, hvl]; exact Nat.le_refl _)
  have hlL : vs.length ≤ sizeLine := by rw [hvl]; exact Evl.sz_of (by omega)
  refine wpAny_bind (wpAny_newList ?_ hlL)
  have hoL : (s1.heap.push (seqObj "list" vs.toArray 0)).get? s1.heap.objs.size = some (seqObj "list" vs.toArray 0) := Heap.get?_push_size _ rfl
  have e := each_str isStr
  have er : ∀ h0 : Heap, EachIs (fun v (z : Str) => ∃ as, Reads h0 v (PyData.str z) as) vs (vs.map strOf) := fun h0 => e.mono fun v z ⟨u, hv⟩ => ⟨[], by rw [hv]; exact .str z u⟩
  refine wpAny_bind (wpAny_holding (wpAny_call_entry_kw slot_list_sort ⟨_, hoL, rfl⟩ entry_list_sort ?_ (args_list_sort _)))
  refine list_sort_vals (s := { s1 with heap := s1.heap.push (seqObj "list" vs.toArray 0) }) hoL (SortsAt.data (each_map (R := fun v d => ∃ as, Reads (sortingHeap (s1.heap.push (seqObj "list" vs.toArray 0)) s1.heap.objs.size vs) v d as) PyData.str (er _)) (AllAlike.of fun _ _ => rfl) (Sortable.others fun _ => ⟨(by intro h; cases h), (by intro _ h; cases h)⟩) (bound_map fun z hz => ?_)) hlL ?_
  · show A.units + 2 + (PyData.str z).depth < cLine
    simp only [PyData.depth]
    omega
  · refine ⟨.none, rfl, ?_⟩
    obtain ⟨c, hc⟩ := sortedHeap_at (vs := vs) (out := (sortVals (dataKind (sortingHeap (s1.heap.push (seqObj "list" vs.toArray 0)) s1.heap.objs.size vs) ((vs.map strOf).map PyData.str)) false vs vs).toArray) hoL
    refine wpAny_pure ⟨_, rfl, h _ s1.heap.objs.size _ c (fun b u e2 => ?_) g1 o1 hz hc ?_⟩
    · have q := k1 b u e2
      have lt := Heap.lt_size q
      show (sortedHeap (s1.heap.push (seqObj "list" vs.toArray 0)) s1.heap.objs.size vs _).get? b = some u
      rw [sortedHeap_old (Nat.ne_of_lt lt) (by rw [size_push']; exact Nat.lt_succ_of_lt lt)]
      exact Heap.get?_push_of_some _ q
    · rw [← srt_congr pl]
      exact sortVals_data false e (er _) (AllAlike.of fun _ _ => rfl)
end
end Lw

namespace Lw
open PySem PySem.Spec PyProof.Rows L2
/-! ### sets of texts, over the layer -/
def SetTO (P : Program) (w : World) (a : Addr) (l : List Str) : HO := .ext fun h => SetT P w h a l
def rSetTx (K : PySem.W.Frag) (P : Program) (w : World) : List V → Hp → VK → Prop := fun vs H Q => ∃ (p : Addr) (ws : List Str), vs = [.ref p] ∧ SqL K H p (ws.map V.str) ∧ ws.length < 1000 ∧ ∀ a l, H a = none → (∀ z, z ∈ l ↔ z ∈ ws) → l.Nodup → Q (.ref a) (upd H a (SetTO P w a l))
def rSortTx (P : Program) (w : World) : List V → Hp → VK → Prop := fun vs H Q => ∃ (a : Addr) (l : List Str), vs = [.ref a] ∧ H a = some (SetTO P w a l) ∧ l.length < 1000 ∧ ∀ p, H p = none → Q (.ref p) (upd H p (.lst ((srt l).map V.str)))
section
variable {X : Cx}
theorem SetT.nodup {P : Program} {w : World} {h : Heap} {a : Addr} {l : List Str} (R : SetT P w h a l) : l.Nodup := by
  obtain ⟨D, _, _, nd, _⟩ := R
  exact nd
theorem setTO_ok {P : Program} {w : World} {H : Hp} {h : Heap} {a : Addr} {l : List Str} (R : SetT P w h a l) : ObjOk P w H h a (SetTO P w a l) := by
  obtain ⟨D, h1, r⟩ := id R
  exact ⟨R, ⟨_, h1⟩, fun h2 h3 q k => SetT.at k q⟩
theorem setTO_get {pins : List (Addr × Obj)} {σ : L2.St} {H : Hp} {s : Shared} {a : Addr} {l : List Str} (I : L2.Inv X pins σ H s) (ha : H a = some (SetTO X.prog X.w a l)) : SetT X.prog X.w s.heap a l := by
  have x : ObjOk X.prog X.w H s.heap a (.ext fun h => SetT X.prog X.w h a l) := I.hok a _ ha
  exact x.1
theorem cr_setTx (hc : X.calm = true) : CallR X (.type "set") (rSetTx X.K X.prog X.w) := by
  intro pins s σ H vs us Q I r h
  obtain ⟨p, ws, rfl, hq, hl, q⟩ := h
  obtain ⟨u, rfl, rx⟩ := vals1 r
  cases rx
  obtain ⟨its, rv, tp, hz⟩ := I.list hq
  have hn : its.length = ws.length := by rw [← rv.length, List.length_map]
  refine call_setTx (I.ok.hd hc) tp.isList (ws := ws) (by rw [List.size_toArray]; exact hn) (by unfold scanBound; omega) (fun i v hv => ?_) fun h' tk l hS hm hc' kk => ?_
  · have hv' : its[i]? = some v := by simpa using hv
    have hi : i < ws.length := by
      rw [← hn]
      exact (List.getElem?_eq_some_iff.mp hv').1
    obtain ⟨v2, e2, r2⟩ := rv.get (i := i) (x := .str ws[i]) (by rw [List.getElem?_map, List.getElem?_eq_getElem hi]; rfl)
    rw [hv'] at e2
    cases e2
    obtain ⟨t, rfl⟩ := r2
    exact ⟨ws[i], t, List.getElem?_eq_getElem hi, rfl⟩
  · exact ⟨.ref _, _, I.laid (t' := tk) (o := SetTO X.prog X.w s.heap.objs.size l) (fun b o e => kk b o e) (Nat.le_refl _) (setTO_ok hS), rfl, q _ l (I.hok.fresh (Nat.le_refl _)) hm hS.nodup⟩
theorem vals_each : ∀ {out : List Value} {ws : List Str}, PySem.W.EachIs (fun v (z : Str) => ∃ u, v = .str z u) out ws → Vals (ws.map V.str) out
  | _, _, .nil => .nil
  | _, _, .cons h t => .cons h (vals_each t)
theorem cr_sortTx (hc : X.calm = true) (hu : X.A.units + 64 < cLine) : CallR X (.builtin "sorted") (rSortTx X.prog X.w) := by
  intro pins s σ H vs us Q I r h
  obtain ⟨a, l, rfl, ha, hl, q⟩ := h
  obtain ⟨u, rfl, rx⟩ := vals1 r
  cases rx
  refine sorted_setTx (setTO_get I ha) (I.ok.hd hc) hl hu fun s' p out c k g o hp hat he => ?_
  have rv := vals_each he
  have hz : ((srt l).map V.str).length ≤ sizeLine := by
    rw [List.length_map, srt_len]
    exact Evl.sz_of (by omega)
  have np : H p = none := I.hok.fresh hp
  have J : Inv X pins σ (upd H p (.lst ((srt l).map V.str))) { s with heap := s'.heap, gens := s'.gens, drawn := s'.drawn, toks := s'.toks } :=
    I.call (ch := []) (Un.laid k hp np) (I.hok.laid k hp ⟨hz, out, c, rv, hat⟩) (by rw [g]; exact I.bare) (fun _ z => nomatch z)
  have e : s' = { s with heap := s'.heap, gens := s'.gens, drawn := s'.drawn, toks := s'.toks } := by
    cases s'
    cases s
    cases o
    rfl
  rw [e]
  exact ⟨.ref p, _, J, rfl, q p np⟩
end
end Lw

namespace Lw
open PySem PySem.Spec PyProof.Rows L2
/-! ### without doubles, in order -/
def dd : List Str → List Str
  | [] => []
  | x :: r => if x ∈ r then dd r else x :: dd r
theorem dd_mem : ∀ {l : List Str} {z : Str}, z ∈ dd l ↔ z ∈ l
  | [], _ => Iff.rfl
  | x :: r, z => by
    unfold dd
    split
    · rw [dd_mem, List.mem_cons]
      exact ⟨.inr, fun h => h.elim (fun e => by rw [e]; assumption) id⟩
    · rw [List.mem_cons, List.mem_cons, dd_mem]
theorem dd_nodup : ∀ l : List Str, (dd l).Nodup
  | [] => List.nodup_nil
  | x :: r => by
    unfold dd
    split
    · exact dd_nodup r
    · rename_i h
      exact List.nodup_cons.mpr ⟨fun k => h (dd_mem.mp k), dd_nodup r⟩
def sd (l : List Str) : List Str := srt (dd l)
theorem len_le_of {l : List Str} (nd : l.Nodup) : ∀ {b : List Str}, (∀ z ∈ l, z ∈ b) → l.length ≤ b.length := fun {b} h => by
  induction l generalizing b with
  | nil => exact Nat.zero_le _
  | cons x r ih =>
    obtain ⟨hx, nd'⟩ := List.nodup_cons.mp nd
    have hm := h x List.mem_cons_self
    have := ih nd' (b := b.erase x) fun z hz => (List.mem_erase_of_ne fun e => hx (by rw [← e]; exact hz)).mpr (h z (List.mem_cons_of_mem _ hz))
    rw [List.length_erase_of_mem hm] at this
    have hp : 0 < b.length := List.length_pos_of_mem hm
    rw [List.length_cons]
    omega
theorem sd_of {l ws : List Str} (nd : l.Nodup) (h : ∀ z, z ∈ l ↔ z ∈ ws) : srt l = sd ws :=
  srt_congr (perm_of_same (dd_nodup ws) (fun z hz => (h z).mpr (dd_mem.mp hz)) (len_le_of nd fun z hz => dd_mem.mpr ((h z).mp hz)))
/-! ### the parts of a split text -/
theorem joinL_part {S : List Nat} : ∀ {ps : List (List Nat)} {p : List Nat}, p ∈ ps → p.length ≤ (TL.joinL S ps).length ∧ ∀ c ∈ p, c ∈ TL.joinL S ps
  | [], _, h => by cases h
  | [q], p, h => by
    rw [List.mem_singleton.mp h]
    exact ⟨Nat.le_refl _, fun c hc => hc⟩
  | q :: r :: t, p, h => by
    show p.length ≤ (q ++ (S ++ TL.joinL S (r :: t))).length ∧ ∀ c ∈ p, c ∈ q ++ (S ++ TL.joinL S (r :: t))
    rcases List.mem_cons.mp h with rfl | h
    · refine ⟨by rw [List.length_append]; omega, fun c hc => List.mem_append.mpr (.inl hc)⟩
    · obtain ⟨h1, h2⟩ := joinL_part (S := S) h
      refine ⟨by rw [List.length_append, List.length_append]; omega, fun c hc => List.mem_append.mpr (.inr (List.mem_append.mpr (.inr (h2 c hc))))⟩
theorem joinL_len {S : List Nat} (hS : 0 < S.length) : ∀ ps : List (List Nat), ps.length ≤ (TL.joinL S ps).length + 1
  | [] => Nat.zero_le _
  | [q] => by
    show 1 ≤ q.length + 1
    omega
  | q :: r :: t => by
    have := joinL_len hS (r :: t)
    show (q :: r :: t).length ≤ (q ++ (S ++ TL.joinL S (r :: t))).length + 1
    rw [List.length_append, List.length_append, List.length_cons]
    omega
theorem split_join_tl (x : Str) : TL.joinL [32] ((Txt.split x " ").map TL.tl) = x.cps.toList := by
  have e := StrLaws.join_split x " "
  have e2 := TL.tl_join " " (Txt.split x " ")
  rw [e] at e2
  rw [show TL.tl (" " : Str) = [32] by decide +kernel] at e2
  exact e2.symm
theorem split_part {x p : Str} (h : p ∈ Txt.split x " ") : p.length ≤ x.length ∧ ∀ c ∈ p.cps.toList, c ∈ x.cps.toList := by
  have := joinL_part (S := [32]) (List.mem_map_of_mem (f := TL.tl) h)
  rw [split_join_tl] at this
  refine ⟨?_, this.2⟩
  rw [len_tl, len_tl]
  exact this.1
theorem split_len (x : Str) : (Txt.split x " ").length ≤ x.length + 1 := by
  have := joinL_len (S := [32]) (by decide) ((Txt.split x " ").map TL.tl)
  rw [split_join_tl, List.length_map] at this
  rw [len_tl]
  exact this
theorem spl_ne : ∀ (S : List Nat) (l : List Nat) (k : Nat) (acc : List Nat), TL.spl S k acc l ≠ []
  | S, [], k, acc => by
    cases k <;> simp [TL.spl]
  | S, c :: r, 0, acc => by
    unfold TL.spl
    split
    · simp
    · exact spl_ne S r 0 _
  | S, c :: r, k + 1, acc => by
    unfold TL.spl
    exact spl_ne S r k acc
theorem split_ne (x : Str) : 0 < (Txt.split x " ").length := by
  refine List.length_pos_iff.mpr fun e => ?_
  have h := TL.split_spl x " " (by decide +kernel) (TL.kind_ok (by decide +kernel))
  rw [e] at h
  exact spl_ne _ _ _ _ h.symm
theorem join_split1 (x : Str) : Txt.join " " (Txt.split x " ") = x := by
  rw [TL.join_eq]
  exact StrLaws.join_split x " "
section
open Evl
variable {K : PySem.W.Frag} {P : Program} {w : World} {σ : L2.St} {H : Hp} {te : TE}
theorem el_sortset {p : Addr} {ws : List Str} (h : Ev te σ H (.ref p)) (hx : SqL K H p (ws.map V.str)) (hl : ws.length < 1000) : EvL (tCB (rSortTx P w) (tCons (tCB (rSetTx K P w) (tCons te tNil)) tNil)) σ H ((sd ws).map V.str) := fun H1 e Q q =>
  h H1 e _ fun H2 e2 => ⟨p, ws, rfl, ex_l (e.trans e2) hx, hl, fun a l na hm nd => by
    have hc : l.length ≤ ws.length := len_le_of nd fun z hz => (hm z).mp hz
    refine ⟨a, l, rfl, upd_same, by omega, fun r nr => ?_⟩
    rw [sd_of nd hm]
    exact q r _ (fresh_back (e2.trans (Ex.new na)) nr) ((e2.trans (Ex.new na)).trans (Ex.new nr)) upd_same⟩
end
end Lw

namespace Lw
open PySem PySem.Spec PyProof.Rows L2
/-! ### joined texts: how long, of which signs -/
def Wd (ps : List Str) : Nat := (ps.map (·.length)).sum + ps.length
theorem wd_append (a b : List Str) : Wd (a ++ b) = Wd a + Wd b := by
  unfold Wd
  rw [List.map_append, List.sum_append, List.length_append]
  omega
theorem wd_take (k : Nat) (a : List Str) : Wd (a.take k) ≤ Wd a := by
  have := wd_append (a.take k) (a.drop k)
  rw [List.take_append_drop] at this
  omega
theorem wd_drop (k : Nat) (a : List Str) : Wd (a.drop k) ≤ Wd a := by
  have := wd_append (a.take k) (a.drop k)
  rw [List.take_append_drop] at this
  omega
theorem wd_rev (a : List Str) : Wd a.reverse = Wd a := by
  unfold Wd
  rw [List.map_reverse, List.sum_reverse, List.length_reverse]
theorem joinL_wd : ∀ ps : List (List Nat), (TL.joinL [32] ps).length ≤ (ps.map (·.length)).sum + ps.length ∧ (ps.map (·.length)).sum + ps.length ≤ (TL.joinL [32] ps).length + 1
  | [] => ⟨Nat.le_refl _, Nat.zero_le _⟩
  | [q] => by
    show q.length ≤ ([q].map (·.length)).sum + 1 ∧ ([q].map (·.length)).sum + 1 ≤ q.length + 1
    simp
  | q :: r :: t => by
    have ih := joinL_wd (r :: t)
    have e : (TL.joinL [32] (q :: r :: t)).length = q.length + (1 + (TL.joinL [32] (r :: t)).length) := by
      show (q ++ ([32] ++ TL.joinL [32] (r :: t))).length = _
      rw [List.length_append, List.length_append]
      rfl
    rw [e, List.map_cons, List.sum_cons, List.length_cons]
    omega
theorem joinL_mem : ∀ {ps : List (List Nat)} {c : Nat}, c ∈ TL.joinL [32] ps → c = 32 ∨ ∃ p ∈ ps, c ∈ p
  | [], _, h => by cases h
  | [q], c, h => .inr ⟨q, List.mem_cons_self, h⟩
  | q :: r :: t, c, h => by
    have h' : c ∈ q ++ ([32] ++ TL.joinL [32] (r :: t)) := h
    rcases List.mem_append.mp h' with h | h
    · exact .inr ⟨q, List.mem_cons_self, h⟩
    · rcases List.mem_append.mp h with h | h
      · exact .inl (List.mem_singleton.mp h)
      · rcases joinL_mem h with h | ⟨p, hp, hc⟩
        · exact .inl h
        · exact .inr ⟨p, List.mem_cons_of_mem _ hp, hc⟩
theorem join_codes (ps : List Str) : (Txt.join " " ps).cps.toList = TL.joinL [32] (ps.map TL.tl) := by
  rw [TL.join_eq]
  have e2 := TL.tl_join " " ps
  rw [show TL.tl (" " : Str) = [32] by decide +kernel] at e2
  exact e2
theorem wd_tl (ps : List Str) : ((ps.map TL.tl).map (·.length)).sum + (ps.map TL.tl).length = Wd ps := by
  unfold Wd
  rw [List.length_map, List.map_map]
  have e : ps.map ((fun x : List Nat => x.length) ∘ TL.tl) = ps.map (·.length) := List.map_congr_left fun z _ => (len_tl z).symm
  rw [e]
theorem join_wd (ps : List Str) : (Txt.join " " ps).length ≤ Wd ps := by
  rw [len_tl, join_codes, ← wd_tl]
  exact (joinL_wd _).1
theorem split_wd (x : Str) : Wd (Txt.split x " ") ≤ x.length + 1 := by
  rw [← wd_tl, len_tl, ← split_join_tl]
  exact (joinL_wd _).2
theorem join_sok {ps : List Str} (h : ∀ p ∈ ps, SOk p) : SOk (Txt.join " " ps) := fun c hc => by
  rw [join_codes] at hc
  rcases joinL_mem hc with rfl | ⟨p, hp, hc⟩
  · decide
  · obtain ⟨q, hq, rfl⟩ := List.mem_map.mp hp
    exact h q hq c hc
theorem cutV_from (xs : List V) (k : Nat) : cutV xs (some (k : Int)) none = xs.drop k := by
  unfold cutV HT.sIx
  have : ¬ ((k : Int) < 0) := by omega
  simp only [this, if_false]
  rw [show (k : Int).toNat = k from rfl]
  rcases Nat.lt_or_ge k xs.length with h | h
  · rw [Nat.min_eq_left (Nat.le_of_lt h), List.take_of_length_le (by rw [List.length_drop]; exact Nat.le_refl _)]
  · rw [Nat.min_eq_right h, List.drop_length, List.take_nil, List.drop_eq_nil_of_le h]
section
open Evl
variable {K : PySem.W.Frag} {σ : L2.St} {H : Hp} {te ta tb : TE} {xs ys : List V}
theorem el_cat (h : EvL ta σ H xs) (k : EvL tb σ H ys) (hz : xs.length + ys.length ≤ 100000) : EvL (tOp rCat ta tb) σ H (xs ++ ys) := fun H1 e Q q =>
  h H1 e _ fun p H2 np e2 hp => k H2 (e.trans e2) _ fun r H3 nr e3 hr => ⟨p, r, xs, ys, rfl, rfl, e3 _ _ hp, hr, sz_of hz, fun t nt => q t _ (fresh_back (e2.trans e3) nt) ((e2.trans e3).trans (Ex.new nt)) upd_same⟩
theorem el_rev (h : EvL te σ H xs) : EvL (tRevL K te) σ H xs.reverse := fun H1 e Q q =>
  h H1 e _ fun p H2 np e2 hp => ⟨p, xs, rfl, sq_of hp, fun t nt => q t _ (fresh_back e2 nt) (e2.trans (Ex.new nt)) upd_same⟩
theorem ev_joinL {sep : Str} {ws : List Str} (h : EvL te σ H (ws.map V.str)) (hz : (ws.map (·.length)).sum + ws.length * sep.length ≤ 16777216) :
    Ev (tM1 (fun x xs H Q => ∃ a p, ∃ ys : List Str, x = .str a ∧ xs = [.ref p] ∧ (SqL K H p (ys.map V.str) ∨ SqT K H p (ys.map V.str)) ∧ (ys.map (·.length)).sum + ys.length * a.length ≤ 16777216 ∧ Q (.str (Txt.join a ys)) H) (tC (.str sep)) te) σ H (.str (Txt.join sep ws)) := fun H1 e Q q =>
  ⟨⟨sep, rfl⟩, h H1 e _ fun p H2 np e2 hp => ⟨sep, p, ws, rfl, rfl, .inl (sq_of hp), hz, q H2 e2⟩⟩
end
end Lw

namespace Lw
open PySem PySem.Spec PyProof.Rows L2
/-! ### errors as values: C(x), e.f, isinstance(e, C) -/
def tMkV (C : Addr) (sp : Sp) (dvs : List V) (ta : TA) : TE := fun σ H Q => ta σ H fun vs H1 => vs.length ≤ 1000 ∧ ∀ a, H1 a = none → sp (.ref a :: (vs ++ dvs)) (upd H1 a (exo a C none)) (fun v H2 => v = .non ∧ Q (.ref a) H2) (fun _ _ _ => False)
section
variable {X : Cx} {e : Expr} {es : List Expr} {ta : TA} {p pos : Pos}
theorem pe_oex {CX : CXT} {x : Str} {C fI : Addr} {k : Nat} {fd : FuncData} {ps : List Str} {sp : Sp} {ds : List Value} {dvs : List V} (T : OexC X.K C) (iC : PySem.W.findIn X.K (.ref C) "__init__" = some (some (.ref fI))) (tI : PySem.W.typeIn X.K (.ref fI) = some (.type "function"))
    (F1 : FnOk X.prog X.w X.K X.mg X.base CX k fI fd ps sp) (hr : Room (k + 1) X.A) (hb : Binds X.K fd ps ds) (hd : Vals dvs ds) (hx : Passes CX X (fun _ _ _ => False)) (hg : Gl X x) (hm : X.mg x = some (.ref C)) (ha : PA X (e :: es) ta)
    (hdb : (x == ("__debug__" : Str)) = false := by decide) (he : starEach (e :: es) X.env = (false, eval e X.env) :: starEach es X.env := by rfl) (hpl : (backTo pos (starEach es X.env)).any (·.1) = false := by rfl) :
    PE X (.Call (.Name x p) (e :: es) [] pos) (tMkV C sp dvs ta) := by
  refine ⟨fun pins s σ H Q I h => ?_⟩
  obtain ⟨nm, q, N, bs, bm, sn, sub, ab, col, dd, k0, k1, k2, k3, k5, hC, hbm⟩ := T.cls
  refine wpAny_Call_Name_kw (ld_glob I hg hm ?_ hdb)
  refine PySem.W.callWith_K (h₀ := X.base) I.ok.mod.kin T.kC (thn (ha.run pos pins s σ H _ I h) fun us s1 ⟨vs, H1, I1, r1, hz, q1⟩ => ⟨I1.kIn, ?_⟩) he hpl
  show wpAny _ _ (call (.ref C) us) _ _ _
  obtain ⟨hp, g, dr, tk, os⟩ := s1
  have up1 : hp.objs.size ≤ hp.objs.size + 1 := Nat.le_succ _
  have hq := q1 (hp.objs.size + 1) (I1.hok.fresh up1)
  have old : ∀ b o, hp.get? b = some o → ((hp.push (PySem.W.kdv_tup us)).push (PySem.HandSPX.excO C hp.objs.size)).get? b = some o := fun b o e => Heap.get?_push_of_some _ (Heap.get?_push_of_some _ e)
  have here : ((hp.push (PySem.W.kdv_tup us)).push (PySem.HandSPX.excO C hp.objs.size)).get? (hp.objs.size + 1) = some (PySem.HandSPX.excO C hp.objs.size) := by heap_get
  have I2 : Inv X pins σ (upd H1 (hp.objs.size + 1) (exo (hp.objs.size + 1) C none)) ⟨(hp.push (PySem.W.kdv_tup us)).push (PySem.HandSPX.excO C hp.objs.size), g, dr, tk, os⟩ :=
    I1.laid (t' := tk) (a := hp.objs.size + 1) (o := exo (hp.objs.size + 1) C none) (h' := (hp.push (PySem.W.kdv_tup us)).push (PySem.HandSPX.excO C hp.objs.size)) old up1 (exo_ok here)
  have r2 : Vals (V.ref (hp.objs.size + 1) :: (vs ++ dvs)) (Value.ref (hp.objs.size + 1) :: (us ++ ds)) := .cons rfl (r1.append hd)
  have hl : (Value.ref (hp.objs.size + 1) :: us ++ ds).length = ps.length := by
    have e := r2.length
    rw [F1.len _ _ _ _ hq] at e
    exact e.symm
  have few : us.length ≤ sizeLine := by
    rw [← Paired.length r1, sizeLine_eq]
    omega
  refine wpAny_call (PySem.HandSPX.call_own F.excBase_ValueError (fun Y => PySem.HandSPX.refsVE_contains Y bm hbm) (I1.kIn _ _ hC) (PySem.W.looks_findIn I1.kIn iC) (fun self => PySem.W.bind_fn I1.kIn self tI) few
    (codeAny_mono (F1.run _ X.stack _ _ ⟨Value.ref (hp.objs.size + 1) :: us, []⟩ (Value.ref (hp.objs.size + 1) :: (us ++ ds)) _ _ (fun _ _ _ => False) (hr.make C us []) (I2.env0.make C us []) (hb _ (Value.ref (hp.objs.size + 1) :: us) I2.kIn hl) r2 hq) fun r s' hq' => ?_))
  cases r with
  | error er => exact hx pins σ _ _ er s' I2 hq'
  | ok fl =>
    cases fl with
    | ret u =>
      obtain ⟨v, H2, os2, bare2, un2, hok2, rv, ev, q2⟩ := hq'
      subst ev
      exact ⟨rv, .ref (hp.objs.size + 1), H2, I2.call' (ch := []) os2 un2 hok2 bare2 (fun _ z => nomatch z), rfl, q2⟩
    | next => exact False.elim hq'
    | brk => exact False.elim hq'
    | cont => exact False.elim hq'
/-- e.f of a made error -/
def tXv (C : Addr) (f : Str) (te : TE) : TE := fun σ H Q => te σ H fun x H1 => ∃ (a dx : Addr) (fs : List (Str × V)) (v : V), x = .ref a ∧ H1 a = some (exo a C (some dx)) ∧ H1 dx = some (exd dx fs) ∧ fs.lookup f = some v ∧ Q v H1
theorem pe_xv {C : Addr} {te : TE} {n : Str} (T : XfC X.K C) (hno : PySem.W.findIn X.K (.ref C) n = some none) (he : PE X e te) (hb : attributeBase e n X.env (eval e X.env) = eval e X.env := by rfl) : PE X (.Attribute e n pos) (tXv C n te) := by
  refine ⟨fun pins s σ H Q I h => ?_⟩
  refine attr_of hb (thn (he.run pins s σ H _ I h) fun u s1 hh => ?_)
  obtain ⟨x, H1, I1, rx, a, dx, fs, v, rfl, ha, hd, l, q⟩ := hh
  obtain rfl : u = Value.ref a := rx
  obtain ⟨t1, ho⟩ := exo_at I1.hok ha
  obtain ⟨mA, hns, hr⟩ := exd_at I1.hok hd
  obtain ⟨od, hod, hl⟩ := lookIn_ns hns
  obtain ⟨u, hu, ru⟩ := RelO.some_of (v := v) (o := mA n) (by rw [← l]; exact hr n)
  have J : PySem.W.InstAt s1.heap a { cls := .ref C, dict := some dx, data := .fields #[.ref t1, .none, .none, .none, .bool false, .none] } C (some od) := ⟨ho, rfl, rfl, hod⟩
  exact HandSPX.exc_get I1.kIn J T.ga T.gg T.exC (PySem.W.findObj_own T.hdC hno rfl (by rw [hl, hu])) (handed_of ru) ⟨v, H1, I1.tok _, ru, q⟩
/-- isinstance(e, c), e a made error -/
def rIsV (K : PySem.W.Frag) : List V → Hp → VK → Prop := fun xs H Q => ∃ (a D dx : Addr) (fs : List (Str × V)) (c : V) (cv : Value) (b : Bool), IsC K D ∧ H a = some (exo a D (some dx)) ∧ H dx = some (exd dx fs) ∧ xs = [.ref a, c] ∧ ClsV c cv ∧ PySem.W.kitOne K (.ref D) cv = some b ∧ Q (.bl b) H
theorem call_isV : CallR X (.builtin "isinstance") (rIsV X.K) := by
  intro pins s σ H xs us Q I r h
  obtain ⟨a, D, dx, fs, c, cv, b, C, ha, hd, rfl, hcv, e, q⟩ := h
  cases r with
  | cons rx rr =>
    cases rr with
    | cons rt rr =>
      cases rr
      cases rx
      have ec := hcv.eq rt
      subst ec
      obtain ⟨t1, ho⟩ := exo_at I.hok ha
      obtain ⟨mA, hns, _⟩ := exd_at I.hok hd
      obtain ⟨od, hod, _⟩ := lookIn_ns hns
      obtain ⟨gt, hgt⟩ := C.gt
      have J : PySem.W.InstAt s.heap a { cls := .ref D, dict := some dx, data := .fields #[.ref t1, .none, .none, .none, .bool false, .none] } D (some od) := ⟨ho, rfl, rfl, hod⟩
      exact PySem.W.kia_one (PySem.W.kitx_exc C.cl C.ga hgt C.sb C.ca C.sn C.tk C.mo) I.kIn J e (by cases hcv <;> exact fun z => nomatch z) fun tk => ⟨.bl b, H, I.kept (t' := tk) fun _ _ z => z, rfl, q⟩
end
end Lw

namespace Lw
open PySem PySem.Spec PyProof.Rows L2
/-! ### the facts of one class of errors, told at once -/
theorem erc_mk {P : Program} {w : World} {K : PySem.W.Frag} {hh : Heap} {mg : Str → Option Value} (X : K.In hh) (G : hh.Ns mainGlobals mg) {c f qn : Str} (st : Stmt)
    (ok : ∀ {fI : Addr} {fd : FuncData} {C : Addr} {base : Heap}, Fun K "__init__" qn st fI fd → OexC K C → PySem.W.findIn K (.ref C) f = some none → FnOk P w K mg base CX0 1 fI fd ["self", f] (sp_init1 K C f))
    (bi : ∀ {fI : Addr} {fd : FuncData}, Fun K "__init__" qn st fI fd → Binds K fd ["self", f] [])
    {C I N E : Addr} {nm q : Str} {bs sub : List Value} {sn : List Str} {ab : Bool} {col : Option Bool} {dd : Option Addr} {m0 m1 m2 m3 m5 : Option Value} {od an : Option Addr} {sl : Array (Option Value)} {oc kV dc pm cd ct : Value}
    (aC : PySem.W.nsIn K mainGlobals c = some (some (.ref C)))
    (xL : K.lookup C = some (excClassObj nm q C N bs (.ref E :: [.type "ValueError", .type "Exception", .type "BaseException", .type "object"]) true sn sub ab col dd m0 m1 m2 m3 m5 "ValueError.__new__"))
    (sa : PySem.W.findIn K (.ref C) "__setattr__" = some (some (.builtin "object.__setattr__"))) (ga : PySem.W.findIn K (.ref C) "__getattribute__" = some (some (.builtin "BaseException.__getattribute__"))) (gg : PySem.W.findIn K (.ref C) "__getattr__" = some none) (nb : PySem.W.findIn K (.ref C) f = some none)
    (iC : PySem.W.findIn K (.ref C) "__init__" = some (some (.ref I))) (tI : PySem.W.typeIn K (.ref I) = some (.type "function")) (kC : PySem.W.keepIn K (.ref C) = true) (eC : PySem.W.subIn K (.ref C) (.type "BaseException") = some true) (tC : PySem.W.typeIn K (.ref C) = some (.type "type")) (hC : PySem.W.hasDictIn K C = true)
    (cA : PySem.W.findIn K (.ref C) "__class__" = some (some (.builtin "object.__class__"))) (mo : PySem.W.mroIn K C (.type "object") = some true)
    (lI : K.lookup I = some ⟨oc, od, .func (PySem.W.fnOf "__init__" qn (defArgs st) (defBody st) (defScope st) .none kV dc pm an cd ct), sl⟩) (dI : PySem.W.codeIn K cd qn = true) (kI : PySem.W.keepIn K (.ref I) = true)
    (gsn : PySem.W.specialIn K (.builtin "object.__class__") "__get__" = some (some (.builtin "getset_descriptor.__get__"))) (gtk : PySem.W.takesIn K (.builtin "object.__class__") = some true) :
    ∀ base : Heap, ErC P w K mg base c f C I (PySem.W.fnOf "__init__" qn (defArgs st) (defBody st) (defScope st) .none kV dc pm an cd ct) := fun base => by
  have O : OexC K C := ⟨⟨_, _, _, _, _, _, _, _, _, _, _, _, _, _, _, xL, by first | rfl | decide +kernel⟩, sa, eC, tC, kC⟩
  have FI := fun_mk (st := st) lI dI kI
  exact ⟨O, ⟨ga, gg, eC, hC⟩, ⟨by unfold PySem.W.clsIn; rw [xL] <;> rfl, ga, ⟨_, gg⟩, eC, cA, gsn, gtk, mo⟩, iC, tI, nb, PySem.W.mg_of X G aC, ok FI O nb, bi FI⟩
end Lw

/-! ### an own error made with keywords: the class is called as type.__call__ does, its keywords go on to __init__ -/
namespace PySem
namespace HandSPX
open Builtin Builtin.ObjectAttr
section
variable {prog : Program} {w : World} {A : Around} {E : Value → Shared → Prop} {R : Result → Shared → Prop} {h : Heap} {g : Array GenState} {d : Drawn} {t : Nat} {os : OsState} {kw : List (Str × Value)}
variable {nm q : Str} {C N : Addr} {bs bm bmB : List Value} {hdct : Bool} {sn : List Str} {sub : List Value} {ab : Bool} {col : Option Bool} {dd : Option Addr} {k0 k1 k2 k3 k5 : Option Value} {B newId initId : String}
theorem lw_in (hT : ∀ X : String, bm.contains (.type X) = bmB.contains (.type X)) {Y : String} {b : Bool} (e : bmB.contains (.type Y) = b) : (Value.ref C :: bm).contains (.type Y) = b := by
  rw [List.contains_cons, hT, e]; rfl
theorem lw_check (F : ExcBaseFacts B newId initId bmB) (hT : ∀ X : String, bm.contains (.type X) = bmB.contains (.type X)) {M : Model} {vs : List Value} {Q : Unit → Shared → Prop} (hC : h.get? C = some (excClassObj nm q C N bs bm hdct sn sub ab col dd k0 k1 k2 k3 k5 newId)) (hq : Q () ⟨h, g, d, t, os⟩) :
    wpAny M A (checkBuiltinCall newId ⟨.ref C :: vs, kw⟩) Q E ⟨h, g, d, t, os⟩ := by
  have c1 : (Value.ref C :: bm).contains (.type B) = true := lw_in hT F.hasB
  have c2 := F.noStar
  simp only [checkBuiltinCall, F.newKind, F.newSplit, F.newRow]
  iterate 60 (first | refine wpAny_loadPart_at hC ?_ | (refine wpAny_isSubtype_exc hC ?_; rw [c1]) | refine wpAny_staticBase_exc hC ?_ | refine wpAny_madeBy_exc hC ?_ | simp only [bne_self_eq_false, Bool.false_eq_true, if_false] | wp_step | skip)
  exact hq
theorem lw_new (F : ExcBaseFacts B newId initId bmB) (hT : ∀ X : String, bm.contains (.type X) = bmB.contains (.type X)) {vs : List Value} (hC : h.get? C = some (excClassObj nm q C N bs bm hdct sn sub ab col dd k0 k1 k2 k3 k5 newId))
    (hq : R (.ok (.ret (.ref (h.objs.size + 1)))) ⟨(h.push (W.kdv_tup vs)).push (excO C h.objs.size), g, d, t, os⟩) (hz : vs.length ≤ sizeLine) : codeAny (model prog w) A (.builtin newId ⟨.ref C :: vs, kw⟩) R ⟨h, g, d, t, os⟩ := by
  have c0 := F.ends
  have cB : (Value.ref C :: bm).contains (.type B) = true := lw_in hT F.hasB
  have cA : (Value.ref C :: bm).contains (.type "AttributeError") = false := lw_in hT F.noAttr
  have cN : (Value.ref C :: bm).contains (.type "NameError") = false := lw_in hT F.noName
  refine codeAny_builtinAt F.entry ?_
  unfold Builtin.«BaseException.__new__»
  refine wpAt_bind ?_
  show wpAt _ _ _ (stack >>= _) _ _ _
  refine wpAt_bind (wpAt_stack fun p below => wpAt_of_wpAny ?_)
  wp_walk
  refine wpAt_of_wpAny ?_
  rw [F.owner]
  iterate 200 (first | with_reducible refine wpAny_madeHere_exc F.canon hC ?_ | with_reducible refine wpAny_loadPart_at hC ?_ | (with_reducible refine wpAny_isSubtype_exc hC ?_; first | rw [cB] | rw [cA] | rw [cN]) | wp_step | skip)
  show R _ _
  rw [Heap.size_push]
  exact hq
end
end HandSPX
end PySem

namespace PySem
namespace HandSPX
open Builtin Builtin.ObjectAttr
section
variable {prog : Program} {w : World} {A : Around} {E : Value → Shared → Prop} {R : Result → Shared → Prop} {h : Heap} {g : Array GenState} {d : Drawn} {t : Nat} {os : OsState} {kw : List (Str × Value)}
variable {nm q : Str} {C N : Addr} {bs bm bmB : List Value} {hdct : Bool} {sn : List Str} {sub : List Value} {ab : Bool} {col : Option Bool} {dd : Option Addr} {k0 k1 k2 k3 k5 : Option Value} {B newId initId : String}
theorem lw_type_call (F : ExcBaseFacts B newId initId bmB) (hT : ∀ X : String, bm.contains (.type X) = bmB.contains (.type X)) {vs : List Value} {fI : Addr} {Q : Fin → Shared → Prop}
    (hC : h.get? C = some (excClassObj nm q C N bs bm hdct sn sub ab col dd k0 k1 k2 k3 k5 newId)) (hi : W.Looks (model prog w) h (typeLookup (.ref C) "__init__") (some (.ref fI))) (hb : ∀ self, W.Looks (model prog w) h (bindSpecial (.ref fI) self) (.ref fI, [self])) (hz : vs.length ≤ sizeLine)
    (hq : codeAny (model prog w) A (.call (.ref fI) ⟨.ref (h.objs.size + 1) :: vs, kw⟩) (fun r s' => match r with | .ok (.ret v) => v = .none ∧ Q (.done (.ret (.ref (h.objs.size + 1)))) s' | .ok _ => False | .error e => E e s') ⟨(h.push (W.kdv_tup vs)).push (excO C h.objs.size), g, d, t, os⟩) :
    wpAny (model prog w) A (Builtin.«type.__call__» ⟨.ref C :: vs, kw⟩) Q E ⟨h, g, d, t, os⟩ := by
  iterate 100 (first | with_reducible refine wpAny_loadPart_at hC ?_ | with_reducible refine wpAny_madeBy_exc hC ?_ | wp_step | skip)
  refine codeAny_call_builtin_code (Code.quiet_builtin _ F.quiet) (lw_check F hT hC ?_)
  refine lw_new F hT hC ?_ hz
  show wpAny _ _ _ _ _ _
  have up : ∀ b o, h.get? b = some o → ((h.push (W.kdv_tup vs)).push (excO C h.objs.size)).get? b = some o := fun b o e => Heap.get?_push_of_some _ (Heap.get?_push_of_some _ e)
  have hC2 := up _ _ hC
  have hx : ((h.push (W.kdv_tup vs)).push (excO C h.objs.size)).get? (h.objs.size + 1) = some (excO C h.objs.size) := by heap_get
  have cc : (Value.ref C :: bm).contains (.ref C) = true := by simp
  have li := hi.keeps up
  have lb := (hb (.ref (h.objs.size + 1))).keeps up
  unfold isInstance
  iterate 100 (first | with_reducible refine wpAny_loadPart_at hx ?_ | (with_reducible refine wpAny_isSubtype_exc hC2 ?_; rw [cc]) | wp_step | skip)
  show wpAny _ _ (typeLookup (.ref C) _) _ _ _
  refine li.at ?_
  refine wpAny_holding (wpAny_bind (lb.at ?_))
  refine wpAny_bind (wpAny_call (codeAny_mono hq fun r s' z => ?_))
  rcases r with e | (_ | v | _ | _)
  all_goals first
    | exact z
    | exact z.elim
    | (obtain ⟨rfl, z⟩ := z; first | exact wpAny_pure (wpAny_pure z) | (wp_walk; exact z))
    | (have y := z.2; have y1 := z.1; subst y1; first | exact wpAny_pure (wpAny_pure y) | (wp_walk; exact y))
theorem lw_check_type {M : Model} {vs : List Value} {Q : Unit → Shared → Prop} (hC : h.get? C = some (excClassObj nm q C N bs bm hdct sn sub ab col dd k0 k1 k2 k3 k5 newId)) (hq : Q () ⟨h, g, d, t, os⟩) : wpAny M A (checkBuiltinCall "type.__call__" ⟨.ref C :: vs, kw⟩) Q E ⟨h, g, d, t, os⟩ := by
  have t1 := tc_sub
  have t2 : (⟨h, g, d, t, os⟩ : Shared).TypeIs (.ref C) "type" := ⟨_, hC, rfl⟩
  simp only [checkBuiltinCall, tc_kind, tc_split]
  repeat (any_goals (first | assumption | with_reducible refine wpAny_map ?_ | with_reducible refine wpAny_onRaise ?_ | with_reducible refine wpAny_loadPart_at hC ?_ | wp_step))
theorem lw_call (F : ExcBaseFacts B newId initId bmB) (hT : ∀ X : String, bm.contains (.type X) = bmB.contains (.type X)) {vs : List Value} {fI : Addr}
    (hC : h.get? C = some (excClassObj nm q C N bs bm hdct sn sub ab col dd k0 k1 k2 k3 k5 newId)) (hi : W.Looks (model prog w) h (typeLookup (.ref C) "__init__") (some (.ref fI))) (hb : ∀ self, W.Looks (model prog w) h (bindSpecial (.ref fI) self) (.ref fI, [self])) (hz : vs.length ≤ sizeLine)
    (hq : codeAny (model prog w) (A.under (.builtin "type.__call__" ⟨.ref C :: vs, kw⟩)) (.call (.ref fI) ⟨.ref (h.objs.size + 1) :: vs, kw⟩) (W.InitBack (h.objs.size + 1) R) ⟨(h.push (W.kdv_tup vs)).push (excO C h.objs.size), g, d, t, os⟩) :
    codeAny (model prog w) A (.call (.ref C) ⟨vs, kw⟩) R ⟨h, g, d, t, os⟩ := by
  have s1 := tc_lookup
  have s2 := tc_bind (.ref C)
  have hTy : (⟨h, g, d, t, os⟩ : Shared).TypeIs (.ref C) "type" := ⟨_, hC, rfl⟩
  refine codeAny_of_tree ?_
  show wpAny _ _ (callAny (.ref C) _) _ _ _
  repeat (any_goals (first | with_reducible refine wpAny_loadPart_at hC ?_ | assumption | wp_step))
  refine ⟨rfl, ?_⟩
  refine codeAny_call_builtin_at (Code.quiet_builtin _ (by decide +kernel)) entry_typeCall ?_
  exact lw_check_type hC (lw_type_call F hT hC hi hb hz (codeAny_mono hq fun r s' z => by rcases r with e | (v | _ | _ | _) <;> exact z))
end
end HandSPX
end PySem

namespace Lw
open PySem PySem.Spec PyProof.Rows L2
def tMkVK (C : Addr) (sp : Sp) (gV : List V → List V → List V) (tk : TA) : TE := fun σ H Q => tk σ H fun zs H1 => ∀ a, H1 a = none → sp (gV [.ref a] zs) (upd H1 a (exo a C none)) (fun v H2 => v = .non ∧ Q (.ref a) H2) (fun _ _ _ => False)
section
variable {X : Cx} {p pos : Pos}
/-- C(k = v, ..) -/
theorem pe_oexK {CX : CXT} {x : Str} {C fI : Addr} {k : Nat} {fd : FuncData} {ps ks : List Str} {sp : Sp} {kws : List Keyword} {tk : TA} {g : List Value → List Value → List Value} {gV : List V → List V → List V} (T : OexC X.K C) (iC : PySem.W.findIn X.K (.ref C) "__init__" = some (some (.ref fI))) (tI : PySem.W.typeIn X.K (.ref fI) = some (.type "function"))
    (F1 : FnOk X.prog X.w X.K X.mg X.base CX k fI fd ps sp) (hr : Room (k + 1) X.A) (hb : KBinds X.K fd ps ks g gV) (hx : Passes CX X (fun _ _ _ => False)) (hg : Gl X x) (hm : X.mg x = some (.ref C)) (hkw : PK X kws tk)
    (hall : (backToKw pos (keywordEach kws X.env)).all (·.1.isSome) = true := by rfl) (hks : (backToKw pos (keywordEach kws X.env)).filterMap (·.1) = ks := by rfl) (hdb : (x == ("__debug__" : Str)) = false := by decide)
    (hpl : ((backTo pos (starEach [] X.env)).any (·.1) || (backToKw pos (keywordEach kws X.env)).any (·.1.isNone)) = false := by rfl) :
    PE X (.Call (.Name x p) [] kws pos) (tMkVK C sp gV tk) := by
  refine ⟨fun pins s σ H Q I h => ?_⟩
  obtain ⟨nm, q, N, bs, bm, sn, sub, ab, col, dd, k0, k1, k2, k3, k5, hC, hbm⟩ := T.cls
  refine wpAny_Call_Name_kw (ld_glob I hg hm ?_ hdb)
  refine PySem.W.callWith_KW0 (h₀ := X.base) I.ok.mod.kin T.kC hall ?_ hpl
  refine thn (hkw.run pos pins s σ H _ I h) fun ws s1 ⟨zs, H1, I1, rz, q1⟩ => ⟨I1.kIn, ?_⟩
  rw [hks]
  show wpAny _ _ (call (.ref C) [] (ks.zip ws)) _ _ _
  obtain ⟨hp, g', dr, tk', os⟩ := s1
  have up1 : hp.objs.size ≤ hp.objs.size + 1 := Nat.le_succ _
  have hq := q1 (hp.objs.size + 1) (I1.hok.fresh up1)
  have old : ∀ b o, hp.get? b = some o → ((hp.push (PySem.W.kdv_tup [])).push (PySem.HandSPX.excO C hp.objs.size)).get? b = some o := fun b o e => Heap.get?_push_of_some _ (Heap.get?_push_of_some _ e)
  have here : ((hp.push (PySem.W.kdv_tup [])).push (PySem.HandSPX.excO C hp.objs.size)).get? (hp.objs.size + 1) = some (PySem.HandSPX.excO C hp.objs.size) := by heap_get
  have I2 : Inv X pins σ (upd H1 (hp.objs.size + 1) (exo (hp.objs.size + 1) C none)) ⟨(hp.push (PySem.W.kdv_tup [])).push (PySem.HandSPX.excO C hp.objs.size), g', dr, tk', os⟩ :=
    I1.laid (t' := tk') (a := hp.objs.size + 1) (o := exo (hp.objs.size + 1) C none) (h' := (hp.push (PySem.W.kdv_tup [])).push (PySem.HandSPX.excO C hp.objs.size)) old up1 (exo_ok here)
  have r1 : Vals [V.ref (hp.objs.size + 1)] [Value.ref (hp.objs.size + 1)] := .cons rfl .nil
  have r2 := hb.rel r1 rz
  have hl : (g [Value.ref (hp.objs.size + 1)] ws).length = ps.length := by
    rw [← r2.length]
    exact F1.len _ _ _ _ hq
  refine wpAny_call (PySem.HandSPX.lw_call F.excBase_ValueError (fun Y => PySem.HandSPX.refsVE_contains Y bm hbm) (I1.kIn _ _ hC) (PySem.W.looks_findIn I1.kIn iC) (fun self => PySem.W.bind_fn I1.kIn self tI) (Nat.zero_le _)
    (codeAny_mono (F1.run _ X.stack _ _ ⟨[Value.ref (hp.objs.size + 1)], ks.zip ws⟩ (g [Value.ref (hp.objs.size + 1)] ws) _ _ (fun _ _ _ => False) (hr.make C [] (ks.zip ws)) (I2.env0.make C [] (ks.zip ws)) (hb.to _ [Value.ref (hp.objs.size + 1)] ws I2.kIn hl) r2 hq) fun r s' hq' => ?_))
  cases r with
  | error er => exact hx pins σ _ _ er s' I2 hq'
  | ok fl =>
    cases fl with
    | ret u =>
      obtain ⟨v, H2, os2, bare2, un2, hok2, rv, ev, q2⟩ := hq'
      subst ev
      exact ⟨rv, .ref (hp.objs.size + 1), H2, I2.call' (ch := []) os2 un2 hok2 bare2 (fun _ z => nomatch z), rfl, q2⟩
    | next => exact False.elim hq'
    | brk => exact False.elim hq'
    | cont => exact False.elim hq'
/-- C(), an own class of errors without __init__ -/
theorem pe_oex0 {C : Addr} {bmB : List Value} {B newId initId : String} {x : Str} (F : ExcBaseFacts B newId initId bmB) (q : PySem.W.excIn X.K C bmB newId = true) (gC : X.mg x = some (.ref C)) (kC : PySem.W.keepIn X.K (.ref C) = true) (hg : Gl X x)
    (hdb : (x == ("__debug__" : Str)) = false := by decide) : PE X (.Call (.Name x p) [] [] pos) (fun σ H Q => ∀ a, H a = none → Q (.ref a) (upd H a (exo a C none))) := by
  refine ⟨fun pins s σ H Q I h => ?_⟩
  refine wpAny_Call_Name_kw (ld_glob I hg gC ?_ hdb)
  refine PySem.W.callWith_K0 I.kIn kC ?_
  obtain ⟨bm, N, nm, qn, bs, hdct, sn, sub, ab, col, dd, k0, k1, k2, k3, k5, mN, hC, hN, hni, T⟩ := exc_obj I.kIn q
  refine wpAny_call_exc_subT F T hC hN hni (fun h' a hm => ?_) (Nat.zero_le _)
  have hn : H a = none := I.hok.gone hm.new
  obtain ⟨t, ht, _, _⟩ := hm.there
  exact ⟨.ref a, upd H a (exo a C none), I.laidN hm.keeps hm.new hn (exo_ok (t1 := t) ht), rfl, h a hn⟩
/-- __init__(self, f, g): self.f = f; self.g = g -/
def sp_init2 (K : PySem.W.Frag) (C : Addr) (f1 f2 : Str) : Sp := fun vs H Q _ => ∃ (a : Addr) (y z : V), vs = [.ref a, y, z] ∧ H a = some (exo a C none) ∧ ∀ dx, H dx = none → dx ≠ a → Q .non (upd (upd (upd H dx (exd dx [(f1, y)])) a (exo a C (some dx))) dx (exd dx [(f2, z), (f1, y)]))
/-- isinstance(e, c), e a made error -/
def rIsW (K : PySem.W.Frag) : List V → Hp → VK → Prop := fun xs H Q => ∃ (a D : Addr) (d : Option Addr) (c : V) (cv : Value) (b : Bool), IsC K D ∧ H a = some (exo a D d) ∧ (∀ dx, d = some dx → ∃ fs, H dx = some (exd dx fs)) ∧ xs = [.ref a, c] ∧ ClsV c cv ∧ PySem.W.kitOne K (.ref D) cv = some b ∧ Q (.bl b) H
theorem call_isW : CallR X (.builtin "isinstance") (rIsW X.K) := by
  intro pins s σ H xs us Q I r h
  obtain ⟨a, D, d, c, cv, b, C, ha, hd, rfl, hcv, e, q⟩ := h
  cases r with
  | cons rx rr =>
    cases rr with
    | cons rt rr =>
      cases rr
      cases rx
      have ec := hcv.eq rt
      subst ec
      obtain ⟨t1, ho⟩ := exo_at I.hok ha
      obtain ⟨gt, hgt⟩ := C.gt
      obtain ⟨od, J⟩ : ∃ od : Option Obj, PySem.W.InstAt s.heap a { cls := .ref D, dict := d, data := .fields #[.ref t1, .none, .none, .none, .bool false, .none] } D od := by
        cases d with
        | none => exact ⟨none, ho, rfl, rfl, trivial⟩
        | some dx =>
          obtain ⟨fs, hdx⟩ := hd dx rfl
          obtain ⟨mA, hns, _⟩ := exd_at I.hok hdx
          obtain ⟨od, hod, _⟩ := lookIn_ns hns
          exact ⟨some od, ho, rfl, rfl, hod⟩
      exact PySem.W.kia_one (PySem.W.kitx_exc C.cl C.ga hgt C.sb C.ca C.sn C.tk C.mo) I.kIn J e (by cases hcv <;> exact fun z => nomatch z) fun tk => ⟨.bl b, H, I.kept (t' := tk) fun _ _ z => z, rfl, q⟩
/-! ### two lists of the very same things -/
def DSame : Eqv := fun x y _ => (flatV x = true ∧ flatV y = true ∧ eqV x y = true) ∨ ∃ a, x = .ref a ∧ y = .ref a
theorem mon_same : Mon DSame := fun _ _ _ _ _ h => h
theorem eqG_same : EqG X 0 DSame := by
  intro A pins s σ H x y u v sb I rx ry d
  rcases d with d | ⟨a, rfl, rfl⟩
  · exact eqG_flat A pins s σ H x y u v sb I rx ry d
  · cases rx
    cases ry
    exact SeqAt.EqAt.same (A := A) (s := s) (.ref a) X.prog X.w X.xe _ ⟨rfl, H, I, Ext.rfl'⟩
theorem op_eqSame {k : Nat} (hr : Room (k + 1) X.A) : OpR X (compareOp .Eq) (rEqG (DList DSame)) := op_eqG (rcG_list mon_same eqG_same) (hr.mono (by omega))
end
end Lw

namespace Lw
open PySem PySem.Spec PyProof.Rows L2
open Evl (Ex Ev EvA EvL)
/-! ### what evaluates to a thing of which something is true -/
def EvR (R : Hp → V → Prop) (te : TE) (σ : L2.St) (H : Hp) : Prop := ∀ H1, Ex H H1 → ∀ Q : VK, (∀ v H2, Ex H1 H2 → R H2 v → Q v H2) → te σ H1 Q
def EaR {α : Type} (R : Hp → V → α → Prop) (ta : TA) (σ : L2.St) (H : Hp) (bs : List α) : Prop := ∀ H1, Ex H H1 → ∀ Q : List V → Hp → Prop, (∀ vs H2, Ex H1 H2 → Rels R H2 vs bs → Q vs H2) → ta σ H1 Q
def ElR {α : Type} (R : Hp → V → α → Prop) (te : TE) (σ : L2.St) (H : Hp) (bs : List α) : Prop := ∀ H1, Ex H H1 → ∀ Q : VK, (∀ p xs H2, H1 p = none → Ex H1 H2 → H2 p = some (.lst xs) → Rels R H2 xs bs → Q (.ref p) H2) → te σ H1 Q
section
variable {α : Type} {R : Hp → V → α → Prop} {σ : L2.St} {H : Hp} {te tb : TE} {ta : TA} {b : α} {bs cs : List α}
theorem EvR.imp {R S : Hp → V → Prop} (h : EvR R te σ H) (k : ∀ H v, R H v → S H v) : EvR S te σ H := fun H1 e Q q => h H1 e Q fun v H2 e2 r => q v H2 e2 (k H2 v r)
theorem ear_nil : EaR R tNil σ H [] := fun H1 _ _ q => q [] H1 (Ex.refl H1) trivial
theorem ear_cons (mon : ∀ {H H' : Hp} {v : V} {b : α}, Ex H H' → R H v b → R H' v b) (h : EvR (fun H v => R H v b) te σ H) (r : EaR R ta σ H bs) : EaR R (tCons te ta) σ H (b :: bs) := fun H1 e Q q =>
  h H1 e _ fun v H2 e2 hv => r H2 (e.trans e2) _ fun vs H3 e3 hvs => q (v :: vs) H3 (e2.trans e3) ⟨mon e3 hv, hvs⟩
theorem elr_lst (mon : ∀ {H H' : Hp} {v : V} {b : α}, Ex H H' → R H v b → R H' v b) (h : EaR R ta σ H bs) (hl : bs.length ≤ 100000) : ElR R (tLst ta) σ H bs := fun H1 e Q q =>
  h H1 e _ fun vs H2 e2 hv => ⟨Evl.sz_of (by rw [hv.len]; exact hl), fun p np => q p vs _ (Evl.fresh_back e2 np) (e2.trans (Ex.new np)) upd_same (hv.imp fun _ _ r => mon (Ex.new np) r)⟩
theorem elr_cat (mon : ∀ {H H' : Hp} {v : V} {b : α}, Ex H H' → R H v b → R H' v b) (h : ElR R te σ H bs) (k : ElR R tb σ H cs) (hl : bs.length + cs.length ≤ 100000) : ElR R (tOp rCat te tb) σ H (bs ++ cs) := fun H1 e Q q =>
  h H1 e _ fun p xs H2 np e2 hp hx => k H2 (e.trans e2) _ fun r ys H3 nr e3 hr hy => ⟨p, r, xs, ys, rfl, rfl, e3 _ _ hp, hr, Evl.sz_of (by rw [hx.len, hy.len]; exact hl), fun l nl =>
    q l (xs ++ ys) _ (Evl.fresh_back (e2.trans e3) nl) ((e2.trans e3).trans (Ex.new nl)) upd_same (Rels.append (hx.imp fun _ _ r => mon (e3.trans (Ex.new nl)) r) (hy.imp fun _ _ r => mon (Ex.new nl) r))⟩
theorem elr_var (mon : ∀ {H H' : Hp} {v : V} {b : α}, Ex H H' → R H v b → R H' v b) {i : Nat} {p : Addr} {xs : List V} (hi : σ[i]? = some (some (.ref p))) (hp : H p = some (.lst xs)) (hx : Rels R H xs bs) :
    ∀ H1, Ex H H1 → ∀ Q : VK, (H1 p = some (.lst xs) → Rels R H1 xs bs → Q (.ref p) H1) → tVar i σ H1 Q := fun H1 e Q q => ⟨.ref p, hi, q (e _ _ hp) (hx.imp fun _ _ r => mon e r)⟩
/-- xs + [..], xs a name's list -/
theorem elr_catV (mon : ∀ {H H' : Hp} {v : V} {b : α}, Ex H H' → R H v b → R H' v b) {i : Nat} {p : Addr} {xs : List V} (hi : σ[i]? = some (some (.ref p))) (hp : H p = some (.lst xs)) (hx : Rels R H xs bs) (k : ElR R tb σ H cs) (hl : bs.length + cs.length ≤ 100000) :
    ElR R (tOp rCat (tVar i) tb) σ H (bs ++ cs) := fun H1 e Q q => ⟨.ref p, hi, k H1 e _ fun r ys H3 nr e3 hr hy => ⟨p, r, xs, ys, rfl, rfl, (e.trans e3) _ _ hp, hr, Evl.sz_of (by rw [hx.len, hy.len]; exact hl), fun l nl =>
    q l (xs ++ ys) _ (Evl.fresh_back e3 nl) (e3.trans (Ex.new nl)) upd_same (Rels.append (hx.imp fun _ _ r => mon ((e.trans e3).trans (Ex.new nl)) r) (hy.imp fun _ _ r => mon (Ex.new nl) r))⟩⟩
end
section
variable {K : PySem.W.Frag} {σ : L2.St} {H : Hp} {te tb : TE}
theorem el_catV {i : Nat} {p : Addr} {xs ys : List V} (hi : σ[i]? = some (some (.ref p))) (hp : H p = some (.lst xs)) (k : EvL tb σ H ys) (hl : (xs ++ ys).length ≤ 100000) : EvL (tOp rCat (tVar i) tb) σ H (xs ++ ys) := fun H1 e Q q =>
  ⟨.ref p, hi, k H1 e _ fun r H3 nr e3 hr => ⟨p, r, xs, ys, rfl, rfl, (e.trans e3) _ _ hp, hr, Evl.sz_of (by rw [List.length_append] at hl; exact hl), fun l nl => q l _ (Evl.fresh_back e3 nl) (e3.trans (Ex.new nl)) upd_same⟩⟩
end
section
variable {α : Type} {R : Hp → V → α → Prop} {σ : L2.St} {H : Hp} {te : TE} {bs : List α} {D : Ends} {tz : TS}
theorem q_asgR {i : Nat} (h : ElR R te σ H bs) (k : ∀ p xs H1, H p = none → Ex H H1 → H1 p = some (.lst xs) → Rels R H1 xs bs → tz D (σ.set i (some (.ref p))) H1) : tSeq (tAsg te (gName i)) tz D σ H :=
  h H (Ex.refl H) _ fun p xs H1 np e hp hr => k p xs H1 np e hp hr
theorem s_retR (h : ElR R te σ H bs) (k : ∀ p xs H1, H p = none → Ex H H1 → H1 p = some (.lst xs) → Rels R H1 xs bs → D.rt (.ref p) H1) : tRet te D σ H :=
  h H (Ex.refl H) _ fun p xs H1 np e hp hr => k p xs H1 np e hp hr
end
/-- a class of errors with two fields -/
structure ErC2 (P : Program) (w : World) (K : PySem.W.Frag) (mg : Str → Option Value) (base : Heap) (x f f2 : Str) (C fI : Addr) (fd : FuncData) : Prop where
  O : OexC K C
  X : XfC K C
  I : IsC K C
  i : PySem.W.findIn K (.ref C) "__init__" = some (some (.ref fI))
  t : PySem.W.typeIn K (.ref fI) = some (.type "function")
  no : PySem.W.findIn K (.ref C) f = some none
  no2 : PySem.W.findIn K (.ref C) f2 = some none
  g : mg x = some (.ref C)
  G : FnOk P w K mg base CX0 1 fI fd ["self", f, f2] (sp_init2 K C f f2)
  b : Binds K fd ["self", f, f2] []
/-! ### made errors -/
theorem exo_lst {a C : Addr} {d : Option Addr} {xs : List V} : exo a C d ≠ .lst xs := fun z => by
  have z' : HO.ext _ = HO.lst xs := z
  cases z'
theorem exd_lst {a : Addr} {fs : List (Str × V)} {xs : List V} : exd a fs ≠ .lst xs := fun z => by
  have z' : HO.ext _ = HO.lst xs := z
  cases z'
theorem exo_dk {a C : Addr} {d : Option Addr} {xs : List (Key × V)} : exo a C d ≠ .dK xs := fun z => by
  have z' : HO.ext _ = HO.dK xs := z
  cases z'
theorem exd_dk {a : Addr} {fs : List (Str × V)} {xs : List (Key × V)} : exd a fs ≠ .dK xs := fun z => by
  have z' : HO.ext _ = HO.dK xs := z
  cases z'
/-- v is an error of the class at C that keeps fs -/
def ErAt (C : Addr) (fs : List (Str × V)) (H : Hp) (v : V) : Prop := ∃ (a : Addr) (d : Option Addr), v = .ref a ∧ H a = some (exo a C d) ∧ match d with
  | none => fs = []
  | some dx => H dx = some (exd dx fs)
theorem ErAt.ex {C : Addr} {fs : List (Str × V)} {H H' : Hp} {v : V} (e : Ex H H') (h : ErAt C fs H v) : ErAt C fs H' v := by
  obtain ⟨a, d, h1, h2, h3⟩ := h
  refine ⟨a, d, h1, e _ _ h2, ?_⟩
  cases d with
  | none => exact h3
  | some dx => exact e _ _ h3
/-- another object changes -/
theorem ErAt.put {C : Addr} {fs : List (Str × V)} {H : Hp} {v : V} {p : Addr} {o u : HO} (hp : H p = some o) (n1 : ∀ a C d, exo a C d ≠ o) (n2 : ∀ a f, exd a f ≠ o) (h : ErAt C fs H v) : ErAt C fs (upd H p u) v := by
  obtain ⟨a, d, h1, h2, h3⟩ := h
  refine ⟨a, d, h1, (upd_ne (ne_of h2 hp (n1 _ _ _))).trans h2, ?_⟩
  cases d with
  | none => exact h3
  | some dx => exact (upd_ne (ne_of h3 hp (n2 _ _))).trans h3
section
variable {K : PySem.W.Frag} {σ : L2.St} {H : Hp} {te tf : TE} {C a : Addr} {f f2 : Str} {y z : V}
theorem mk1_er {H1 : Hp} {Q : VK} {C : Addr} {f : Str} {y : V} (q : ∀ v H2, Ex H1 H2 → ErAt C [(f, y)] H2 v → Q v H2) : ∀ a, H1 a = none → sp_init1 K C f [.ref a, y] (upd H1 a (exo a C none)) (fun v H2 => v = .non ∧ Q (.ref a) H2) (fun _ _ _ => False) := fun a na =>
  ⟨a, y, rfl, upd_same, fun dx nd ne => ⟨rfl, q _ _ (fun b o hb => by
    have hba := ne_of_none hb na
    have hbd : b ≠ dx := ne_of_none (by rw [upd_ne hba]; exact hb) nd
    rw [upd_ne hba, upd_ne hbd, upd_ne hba]
    exact hb) ⟨a, some dx, rfl, upd_same, (upd_ne ne).trans upd_same⟩⟩⟩
theorem mk2_er {H1 : Hp} {Q : VK} {C : Addr} {f f2 : Str} {y z : V} (q : ∀ v H2, Ex H1 H2 → ErAt C [(f2, z), (f, y)] H2 v → Q v H2) : ∀ a, H1 a = none → sp_init2 K C f f2 [.ref a, y, z] (upd H1 a (exo a C none)) (fun v H2 => v = .non ∧ Q (.ref a) H2) (fun _ _ _ => False) := fun a na =>
  ⟨a, y, z, rfl, upd_same, fun dx nd ne => ⟨rfl, q _ _ (fun b o hb => by
    have hba := ne_of_none hb na
    have hbd : b ≠ dx := ne_of_none (by rw [upd_ne hba]; exact hb) nd
    rw [upd_ne hbd, upd_ne hba, upd_ne hbd, upd_ne hba]
    exact hb) ⟨a, some dx, rfl, (upd_ne (Ne.symm ne)).trans upd_same, upd_same⟩⟩⟩
/-- C(e) -/
theorem evr_mk1 (h : Ev te σ H y) : EvR (ErAt C [(f, y)]) (tMkV C (sp_init1 K C f) [] (tCons te tNil)) σ H := fun H1 e Q q =>
  h H1 e _ fun H2 e2 => ⟨by show 1 ≤ 1000; decide, mk1_er fun v H3 e3 r => q v H3 (e2.trans e3) r⟩
theorem evr_mk2 (h : Ev te σ H y) (k : Ev tf σ H z) : EvR (ErAt C [(f2, z), (f, y)]) (tMkV C (sp_init2 K C f f2) [] (tCons te (tCons tf tNil))) σ H := fun H1 e Q q =>
  h H1 e _ fun H2 e2 => k H2 (e.trans e2) _ fun H3 e3 => ⟨by show 2 ≤ 1000; decide, mk2_er fun v H4 e4 r => q v H4 ((e2.trans e3).trans e4) r⟩
def kwG {α : Type} : List α → List α → List α := fun us ws => match us, ws with
  | [a], [b] => [a, b]
  | _, _ => []
def kwG2 {α : Type} : List α → List α → List α := fun us ws => match us, ws with
  | [a], [n, v] => [a, v, n]
  | _, _ => []
theorem kwG_rel {vs : List V} {us : List Value} {zs : List V} {ws : List Value} (r1 : Vals vs us) (r2 : Vals zs ws) : Vals (kwG vs zs) (kwG us ws) := by
  cases r1 with
  | nil => exact .nil
  | cons a r =>
    cases r with
    | cons _ _ => exact .nil
    | nil =>
      cases r2 with
      | nil => exact .nil
      | cons b r =>
        cases r with
        | nil => exact .cons a (.cons b .nil)
        | cons _ _ => exact .nil
theorem kwG2_rel {vs : List V} {us : List Value} {zs : List V} {ws : List Value} (r1 : Vals vs us) (r2 : Vals zs ws) : Vals (kwG2 vs zs) (kwG2 us ws) := by
  cases r1 with
  | nil => exact .nil
  | cons a r =>
    cases r with
    | cons _ _ => exact .nil
    | nil =>
      cases r2 with
      | nil => exact .nil
      | cons b r =>
        cases r with
        | nil => exact .nil
        | cons c r =>
          cases r with
          | nil => exact .cons a (.cons c (.cons b .nil))
          | cons _ _ => exact .nil
/-- C(f = e) -/
theorem evr_mkK1 (h : Ev te σ H y) : EvR (ErAt C [(f, y)]) (tMkVK C (sp_init1 K C f) kwG (tCons te tNil)) σ H := fun H1 e Q q =>
  h H1 e _ fun H2 e2 => mk1_er fun v H3 e3 r => q v H3 (e2.trans e3) r
theorem evr_mkK2 (h : Ev te σ H z) (k : Ev tf σ H y) : EvR (ErAt C [(f2, z), (f, y)]) (tMkVK C (sp_init2 K C f f2) kwG2 (tCons te (tCons tf tNil))) σ H := fun H1 e Q q =>
  h H1 e _ fun H2 e2 => k H2 (e.trans e2) _ fun H3 e3 => mk2_er fun v H4 e4 r => q v H4 ((e2.trans e3).trans e4) r
theorem evr_mk0 : EvR (ErAt C []) (fun _ H Q => ∀ a, H a = none → Q (.ref a) (upd H a (exo a C none))) σ H := fun H1 e Q q a na => q _ _ (Ex.new na) ⟨a, none, rfl, upd_same, rfl⟩
/-- e.f -/
theorem ev_xv {fs : List (Str × V)} (h : Ev te σ H (.ref a)) (r : ErAt C fs H (.ref a)) (l : fs.lookup f = some y) : Ev (tXv C f te) σ H y := fun H1 e Q q =>
  h H1 e _ fun H2 e2 => by
    obtain ⟨a', d, ea, h2, h3⟩ := r.ex (e.trans e2)
    cases ea
    cases d with
    | none => rw [h3] at l; cases l
    | some dx => exact ⟨a, dx, fs, y, rfl, h2, h3, l, q H2 e2⟩
/-- isinstance(e, c) -/
theorem rc_isW {fs : List (Str × V)} {c : V} {cv : Value} {b : Bool} (I : IsC K C) (r : ErAt C fs H (.ref a)) (hc : ClsV c cv) (hk : PySem.W.kitOne K (.ref C) cv = some b) : Evl.RC (rIsW K) [.ref a, c] H (.bl b) := fun H1 e Q q => by
  obtain ⟨a', d, ea, h2, h3⟩ := r.ex e
  cases ea
  refine ⟨a, C, d, c, cv, b, I, h2, fun dx hd => ?_, rfl, hc, hk, q H1 (Ex.refl H1)⟩
  subst hd
  exact ⟨fs, h3⟩
end
end Lw

namespace Lw
open PySem PySem.Spec PyProof.Rows L2
def topS (i : Nat) : Stmt := PySem.Challenge.pw_bundlekinds_k02_errors.main.body.getD i (.Pass ⟨0, 0, 0, 0⟩)
abbrev s_law_draw : Stmt := topS 24
abbrev n_law_draw : List Str := ["_law_state", "_law_size", "_law_digit", "_law_cell", "_law_one"]
theorem sc_law_draw : FnScope n_law_draw ["_law_state", "_law_size"] (defScope s_law_draw) := ⟨rfl, rfl, rfl, by decide +kernel, rfl, by decide +kernel, by decide +kernel⟩
section
variable {P : Program} {w : World} {K : PySem.W.Frag} {mg : Str → Option Value} {base : Heap}
theorem ok_draw {f : Addr} {fd : FuncData} {k : Nat} (F : Fun K "_law_draw" "_law_draw" s_law_draw f fd) (m_int : mg "int" = none) (m_len : mg "len" = none) : FnOk P w K mg base CX0 (k + 1) f fd ["_law_state", "_law_size"] sp_draw := by
  refine F.ok sc_law_draw (fun vs H Q E h => ?_) (fun cdv A outer s H vs Q E hr h => ?_)
  · obtain ⟨st, size, n, rfl, _⟩ := h
    rfl
  · obtain ⟨st, size, n, rfl, ⟨q, r, bs, cs, c, D, hb, hcs, hc0, hcn⟩, hn, hs0, hs1, hQ⟩ := h
    refine ⟨_, (pss_cons (ps_augS (pv 0) pe_int pget_list pe_int ip_add set_list)
  (Evl.pss_cut (ps_while PassesOwn.never (PW.pt (pw_and (pt_cmpR (op_neD hr.units) (pe_ix ix_list (pv 0) pe_int (fun _ _ => rfl)) (pe_lst pa_nil) (nomark _)) (pw_and1 (pt_cmpR op_eq (pe_ix ix_list (pe_ix ix_list (pv 0) pe_int (fun _ _ => rfl)) pe_int (fun _ _ => rfl)) pe_int (nomark _)))))
   (pss_one (ps_asg (pe_slice sl_list (pe_ix ix_list (pv 0) pe_int (fun _ _ => rfl)) (po_some pe_int) po_none) (pg_sub (pv 0) pe_int set_list))))
  (pss_cons (ps_if (pt_cmpR (op_neD hr.units) (pe_ix ix_list (pv 0) pe_int (fun _ _ => rfl)) (pe_lst pa_nil) (nomark _))
   (pss_cons (ps_set (i := 2) sc_law_draw.nd rfl (by first | exact .inl rfl | exact .inr rfl) (pe_op op_mod (pe_callTy call_int1 (by rfl) m_int (by decide +kernel) (pa_cons (pe_ix ix_list (pe_ix ix_list (pv 0) pe_int (fun _ _ => rfl)) pe_int (fun _ _ => rfl)) pa_nil)) (pv 1)))
  (pss_cons (ps_asg (pe_op op_fdiv (pe_ix ix_list (pe_ix ix_list (pv 0) pe_int (fun _ _ => rfl)) pe_int (fun _ _ => rfl)) (pv 1)) (pg_sub (pe_ix ix_list (pv 0) pe_int (fun _ _ => rfl)) pe_int set_list))
  (pss_one (ps_ret (pv 2)))))
   pss_nil)
  (pss_cons (ps_set (i := 3) sc_law_draw.nd rfl (by first | exact .inl rfl | exact .inr rfl) (pe_op op_mod (pe_callTy call_int1 (by rfl) m_int (by decide +kernel) (pa_cons (pe_ix ix_list (pe_ix ix_list (pv 0) pe_int (fun _ _ => rfl)) (pe_op op_mod (pe_callTy call_int1 (by rfl) m_int (by decide +kernel) (pa_cons (pe_ix ix_list (pv 0) pe_int (fun _ _ => rfl)) pa_nil)) (pe_callB call_len_seq (by rfl) m_len PySem.boot_len (pa_cons (pe_ix ix_list (pv 0) pe_int (fun _ _ => rfl)) pa_nil))) (fun _ _ => rfl)) pa_nil)) pe_int))
  (pss_cons (ps_set (i := 4) sc_law_draw.nd rfl (by first | exact .inl rfl | exact .inr rfl) (pe_op op_mod (pe_callTy call_int1 (by rfl) m_int (by decide +kernel) (pa_cons (pe_op op_pow (pe_op op_add (pe_op op_add (pe_op op_mul (pv 3) pe_int) (pe_op op_mul (pe_ix ix_list (pv 0) pe_int (fun _ _ => rfl)) pe_int)) pe_int) pe_int) pa_nil)) pe_int))
  (pss_one (ps_ret (pe_op op_mod (pe_op op_mod (pe_callTy call_int1 (by rfl) m_int (by decide +kernel) (pa_cons (pe_op op_pow (pe_op op_add (pe_op op_add (pe_op op_mul (pv 4) pe_int) (pe_op op_mul (pe_ix ix_list (pv 0) pe_int (fun _ _ => rfl)) pe_int)) pe_int) pe_int) pa_nil)) pe_int) (pv 1))))))))), ?_⟩
    refine ⟨.ref st, rfl, st, _, 2, .int c, rfl, rfl, .inl (.inl D.st'), rfl, c, 1, rfl, rfl, st, _, 2, 2, rfl, rfl, D.st', rfl, ?_⟩
    refine ⟨fun σ' H' => ∃ q' bs', σ' = L2.start n_law_draw [.ref st, .int size] ∧ DX H' st q' r bs' cs (c + 1) ∧ (∀ b ∈ bs', 0 ≤ b) ∧ Kp st H H', ?_, ?_⟩
    · refine ⟨fun m σ' H' => ∃ q' bs', m = bs'.length ∧ σ' = L2.start n_law_draw [.ref st, .int size] ∧ DX H' st q' r bs' cs (c + 1) ∧ (∀ b ∈ bs', 0 ≤ b) ∧ Kp st H H', ⟨bs.length, q, bs, rfl, rfl, D.count, hb, D.countK⟩, ?_⟩
      rintro m σ' H' ⟨q', bs', rfl, rfl, D', hb', kp⟩
      refine ⟨.ref st, rfl, st, _, 0, .ref q', rfl, rfl, .inl (.inl D'.st'), rfl, Nat.zero_le _, fun p np => ?_⟩
      have D2 : DX (upd H' p (.lst [])) st q' r bs' cs (c + 1) := D'.new np
      have kp2 : Kp st H (upd H' p (.lst [])) := kp.trans (D'.newK np)
      refine ⟨_, _, dp_ints (.inl (.inl D2.q')), dp_empty (.inl (.inl upd_same)), sh_ints _, sh_empty, _, rfl, ?_⟩
      rw [eqv_nil_map]
      cases bs' with
      | nil => exact ⟨q', [], rfl, D2, hb', kp2⟩
      | cons b bs'' =>
        refine ⟨.ref st, rfl, st, _, 0, .ref q', rfl, rfl, .inl (.inl D2.st'), rfl, q', _, 0, .int b, rfl, rfl, .inl (.inl D2.q'), atI_nat (j := 0) rfl, rfl, _, rfl, ite2 (fun hz => ?_) (fun _ => ⟨q', b :: bs'', rfl, D2, hb', kp2⟩)⟩
        refine ⟨_, fun σ2 H2 h => ⟨bs''.length, Nat.lt_succ_self _, h⟩, ?_⟩
        refine ⟨.ref st, rfl, st, _, 0, .ref q', rfl, rfl, .inl (.inl D2.st'), rfl, 1, rfl, q', _, rfl, .inl (.inl D2.q'), fun t nt => ?_⟩
        have ec : cutV ((b :: bs'').map V.int) (some 1) none = bs''.map V.int := by
          unfold cutV
          rw [show HT.sIx ((b :: bs'').map V.int).length 0 (some 1) = 1 from by
            rw [show (1 : Int) = ((1 : Nat) : Int) from rfl, HT.sIx_nat, List.length_map, List.length_cons]
            omega, HT.sIx_none]
          show List.take (((b :: bs'').map V.int).length - 1) (bs''.map V.int) = _
          exact List.take_of_length_le (by simp)
        rw [ec]
        have D3 := D2.new (o := .lst (bs''.map V.int)) nt
        refine ⟨.ref st, rfl, st, _, 0, 0, rfl, rfl, D3.st', rfl, ?_⟩
        exact ⟨t, bs'', rfl, rfl, D2.swap nt, fun x hx => hb' x (List.mem_cons_of_mem _ hx), kp2.trans (D2.swapK nt)⟩
    · rintro σ' H' ⟨q', bs', rfl, D', hb', kp⟩
      refine ⟨.ref st, rfl, st, _, 0, .ref q', rfl, rfl, .inl (.inl D'.st'), rfl, Nat.zero_le _, fun p np => ?_⟩
      have D2 : DX (upd H' p (.lst [])) st q' r bs' cs (c + 1) := D'.new np
      have kp2 : Kp st H (upd H' p (.lst [])) := kp.trans (D'.newK np)
      refine ⟨_, _, dp_ints (.inl (.inl D2.q')), dp_empty (.inl (.inl upd_same)), sh_ints _, sh_empty, _, rfl, ?_⟩
      rw [eqv_nil_map]
      cases bs' with
      | cons b bs'' =>
        refine ⟨.ref st, rfl, st, _, 0, .ref q', rfl, rfl, .inl (.inl D2.st'), rfl, q', _, 0, .int b, rfl, rfl, .inl (.inl D2.q'), atI_nat (j := 0) rfl, .inl ⟨b, rfl, ?_⟩⟩
        refine ⟨.int size, rfl, b, size, rfl, rfl, hs0, ?_⟩
        refine ⟨.ref st, rfl, st, _, 0, .ref q', rfl, rfl, .inl (.inl D2.st'), rfl, q', _, 0, .int b, rfl, rfl, .inl (.inl D2.q'), atI_nat (j := 0) rfl, .int size, rfl, b, size, rfl, rfl, ⟨hs0, by omega⟩, ?_⟩
        refine ⟨.ref st, rfl, st, _, 0, .ref q', rfl, rfl, .inl (.inl D2.st'), rfl, q', _, 0, 0, rfl, rfl, D2.q', Evl.ixN_nat (j := 0) (by simp), ?_⟩
        refine ⟨.int (b % size), rfl, hQ (b % size) _ (Int.emod_nonneg _ (by omega)) (Int.emod_lt_of_pos _ hs0) ⟨q', r, (b / size) :: bs'', cs, c + 1, D2.own (ds := (b / size) :: bs''), ?_, hcs, by omega, by omega⟩ (kp2.trans (D2.ownK (ds := (b / size) :: bs'')))⟩
        intro x hx
        rcases List.mem_cons.mp hx with rfl | hx
        · exact Int.ediv_nonneg (hb' b List.mem_cons_self) (by omega)
        · exact hb' x (List.mem_cons_of_mem _ hx)
      | nil =>
        have hl : 0 < cs.length := List.length_pos_iff.mpr hcs
        have hi0 : 0 ≤ (c + 1) % (cs.length : Int) := Int.emod_nonneg _ (by omega)
        have hi1 : (c + 1) % (cs.length : Int) < cs.length := Int.emod_lt_of_pos _ (by omega)
        obtain ⟨j, hj⟩ : ∃ j : Nat, (c + 1) % (cs.length : Int) = (j : Int) := ⟨((c + 1) % (cs.length : Int)).toNat, by omega⟩
        have hjl : j < cs.length := by omega
        have hat : atI (cs.map V.int) ((c + 1) % ((cs.map V.int).length : Int)) = some (.int cs[j]) := by
          rw [List.length_map, hj]
          exact atI_nat (by rw [List.getElem?_map, List.getElem?_eq_getElem hjl]; rfl)
        refine ⟨.ref st, rfl, st, _, 1, .ref r, rfl, rfl, .inl (.inl D2.st'), rfl, .ref st, rfl, st, _, 2, .int (c + 1), rfl, rfl, .inl (.inl D2.st'), rfl, .inl ⟨c + 1, rfl, ?_⟩⟩
        refine ⟨.ref st, rfl, st, _, 1, .ref r, rfl, rfl, .inl (.inl D2.st'), rfl, r, _, rfl, .inl (.inl (.inl D2.r')), c + 1, _, rfl, rfl, ?_, ?_⟩
        · show (0 : Int) < ((cs.map V.int).length : Int)
          rw [List.length_map]
          omega
        refine ⟨r, _, _, .int cs[j], rfl, rfl, .inl (.inl D2.r'), hat, .inl ⟨cs[j], rfl, cs[j], 2147483647, rfl, rfl, (by omega : (0 : Int) < 2147483647), ?_⟩⟩
        have hm0 : 0 ≤ cs[j] % 2147483647 := Int.emod_nonneg _ (by omega)
        have hm1 : cs[j] % 2147483647 < 2147483647 := Int.emod_lt_of_pos _ (by omega)
        dsimp only
        generalize cs[j] % 2147483647 = m at hm0 hm1
        have hw1 : -(2 ^ 64 : Int) < 48271 ∧ (48271 : Int) < 2 ^ 64 := by decide
        have hw2 : -(2 ^ 64 : Int) < 69621 ∧ (69621 : Int) < 2 ^ 64 := by decide
        have hw3 : -(2 ^ 64 : Int) < 16807 ∧ (16807 : Int) < 2 ^ 64 := by decide
        have hw4 : -(2 ^ 64 : Int) < 40692 ∧ (40692 : Int) < 2 ^ 64 := by decide
        refine ⟨.int m, rfl, m, 48271, rfl, rfl, .inr hw1, ?_⟩
        refine ⟨.ref st, rfl, st, _, 2, .int (c + 1), rfl, rfl, .inl (.inl D2.st'), rfl, c + 1, 69621, rfl, rfl, .inr hw2, m * 48271, (c + 1) * 69621, rfl, rfl, m * 48271 + (c + 1) * 69621, 7, rfl, rfl, ?_⟩
        refine ⟨m * 48271 + (c + 1) * 69621 + 7, 5, rfl, rfl, ⟨by omega, by omega, ?_⟩, .inl ⟨_, rfl, _, 2147483647, rfl, rfl, (by omega : (0 : Int) < 2147483647), ?_⟩⟩
        · have : (2 : Nat) ^ 64 = 18446744073709551616 := by decide
          omega
        have hk0 : 0 ≤ (m * 48271 + (c + 1) * 69621 + 7) ^ (5 : Int).toNat % 2147483647 := Int.emod_nonneg _ (by omega)
        have hk1 : (m * 48271 + (c + 1) * 69621 + 7) ^ (5 : Int).toNat % 2147483647 < 2147483647 := Int.emod_lt_of_pos _ (by omega)
        dsimp only
        generalize (m * 48271 + (c + 1) * 69621 + 7) ^ (5 : Int).toNat % 2147483647 = k at hk0 hk1
        refine ⟨.int k, rfl, k, 16807, rfl, rfl, .inr hw3, ?_⟩
        refine ⟨.ref st, rfl, st, _, 2, .int (c + 1), rfl, rfl, .inl (.inl D2.st'), rfl, c + 1, 40692, rfl, rfl, .inr hw4, k * 16807, (c + 1) * 40692, rfl, rfl, k * 16807 + (c + 1) * 40692, 13, rfl, rfl, ?_⟩
        refine ⟨k * 16807 + (c + 1) * 40692 + 13, 5, rfl, rfl, ⟨by omega, by omega, ?_⟩, .inl ⟨_, rfl, _, 2147483629, rfl, rfl, (by omega : (0 : Int) < 2147483629), .int size, rfl, _, size, rfl, rfl, hs0, ?_⟩⟩
        · have : (2 : Nat) ^ 64 = 18446744073709551616 := by decide
          omega
        exact hQ _ _ (Int.emod_nonneg _ (by omega)) (Int.emod_lt_of_pos _ hs0) ⟨q', r, [], cs, c + 1, D2, hb', hcs, by omega, by omega⟩ kp2
end
end Lw

namespace Lw
open PySem PySem.Spec PyProof.Rows L2
abbrev s_law_start : Stmt := topS 23
abbrev n_law_start : List Str := ["_law_script", "_law_cell"]
theorem sc_law_start : FnScope n_law_start ["_law_script"] (defScope s_law_start) := ⟨rfl, rfl, rfl, by decide +kernel, rfl, by decide +kernel, by decide +kernel⟩
section
variable {P : Program} {w : World} {K : PySem.W.Frag} {mg : Str → Option Value} {base : Heap}
theorem ok_start {f : Addr} {fd : FuncData} {k : Nat} (F : Fun K "_law_start" "_law_start" s_law_start f fd) (m_abs : mg "abs" = none) (m_list : mg "list" = none) : FnOk P w K mg base CX0 (k + 1) f fd ["_law_script"] (sp_start K) := by
  refine F.ok sc_law_start (fun vs H Q E h => ?_) (fun cdv A outer s H vs Q E hr h => ?_)
  · obtain ⟨a, ns, rfl, _⟩ := h
    rfl
  · obtain ⟨a, ns, rfl, hS, hlen, hQ⟩ := h
    refine ⟨_, (pss_one (ps_ret (pe_lst (pa_cons (pe_lc (own := [("_law_cell", 1)]) (g := gName 1) (by rfl) sc_law_start.nd (pi_list (pv 0)) (blkOk_by (own := [("_law_cell", 1)]) (N := n_law_start) (sc := defScope s_law_start) (by decide +kernel)) (fun _ _ _ _ _ => pg_name (i := 1) sc_law_start.nd rfl (by first | exact .inl rfl | exact .inr rfl)) (fun _ _ _ _ _ => (pts_one (pt_cmpR op_ge (pe_callB call_abs (by rfl) m_abs (by decide +kernel) (pa_cons (pv 1) pa_nil)) (pe_op op_pow pe_int pe_int) (nomark _)))) (fun _ _ _ _ _ => (pe_callB call_abs (by rfl) m_abs (by decide +kernel) (pa_cons (pv 1) pa_nil)))) (pa_cons (pe_op op_cat (pe_callTy call_list_of (by rfl) m_list (by decide +kernel) (pa_cons (pv 0) pa_nil)) (pe_lst (pa_cons pe_int pa_nil))) (pa_cons pe_int pa_nil)))))), ?_⟩
    refine ⟨.ref a, rfl, a, rfl, ⟨_, hS⟩, fun D nD => ?_⟩
    refine lc_list (xs := ns.map V.int) (fun i H' => Same H H' ∧ ∃ bs : List Int, H' D = some (.lst (bs.map V.int)) ∧ (∀ b ∈ bs, 0 ≤ b) ∧ bs.length ≤ i) ⟨Evl.Ex.new nD, [], upd_same, (fun _ h => by simp at h), Nat.le_refl _⟩ (fun i H' _ p => p.1.seq hS) (fun i x H' hx p => ?_) (fun H1 p => ?_)
    · rw [List.getElem?_map] at hx
      cases hz : ns[i]? with
      | none =>
        rw [hz] at hx
        cases hx
      | some z =>
        rw [hz] at hx
        cases hx
        have hi : i < ns.length := (List.getElem?_eq_some_iff.mp hz).1
        obtain ⟨sm, bs, eD, hb, hl⟩ := p
        refine ⟨rfl, .int z, rfl, z, rfl, 10, 18, rfl, rfl, ⟨by decide, by decide, by decide⟩, _, _, rfl, rfl, _, rfl, ite2 (fun _ => ?_) (fun _ => ⟨sm, bs, eD, hb, by omega⟩)⟩
        refine ⟨.int z, rfl, z, rfl, _, eD, ?_, fun b o e => ?_, bs ++ [if z < 0 then -z else z], ?_, ?_, ?_⟩
        · rw [List.length_map]
          exact small1000 (by omega)
        · rw [upd_ne (ne_of_none e nD)]
          exact sm b o e
        · rw [upd_same, List.map_append]
          rfl
        · intro b h
          rcases List.mem_append.mp h with h | h
          · exact hb b h
          · rw [List.mem_singleton.mp h]
            split <;> omega
        · rw [List.length_append]
          show bs.length + 1 ≤ i + 1
          omega
    · obtain ⟨sm, bs, eD, hb, hl⟩ := p
      refine ⟨.ref a, rfl, a, _, rfl, .inl (sm.seq hS), fun l nl => ⟨by show (1 : Nat) ≤ sizeLine; decide, fun e ne => ?_⟩⟩
      have elD := ne_of_none eD nl
      have h1 : (upd H1 l (.lst (ns.map V.int))) D = some (.lst (bs.map V.int)) := (upd_ne elD).trans eD
      have nel : l ≠ e := ne_of_none upd_same ne
      have neD := ne_of_none h1 ne
      refine ⟨l, e, _, _, rfl, rfl, (upd_ne nel).trans upd_same, upd_same, ?_, fun r nr => ⟨by show (3 : Nat) ≤ sizeLine; decide, fun st nst => ?_⟩⟩
      · show (ns.map V.int).length + 1 ≤ sizeLine
        rw [List.length_map]
        exact Nat.le_of_lt (small1000 (by omega))
      · have h2 : (upd (upd H1 l (.lst (ns.map V.int))) e (.lst [V.int 5])) D = some (.lst (bs.map V.int)) := (upd_ne neD).trans h1
        have h3 := ne_of_none h2 nr
        have h4 := (upd_ne (o := .lst (ns.map V.int ++ [V.int 5])) h3).trans h2
        have h5 := ne_of_none h4 nst
        have h6 : (upd (upd (upd H1 l (.lst (ns.map V.int))) e (.lst [V.int 5])) r (.lst (ns.map V.int ++ [V.int 5]))) r = some (.lst (ns.map V.int ++ [V.int 5])) := upd_same
        have h7 := ne_of_none h6 nst
        have dx : DX (upd (upd (upd (upd H1 l (.lst (ns.map V.int))) e (.lst [V.int 5])) r (.lst (ns.map V.int ++ [V.int 5]))) st (.lst [.ref D, .ref r, .int 0])) st D r bs (ns ++ [5]) 0 := ⟨upd_same, (upd_ne h5).trans h4, by rw [upd_ne h7, upd_same, List.map_append]; rfl, h3, h5, h7⟩
        refine hQ st _ ⟨D, r, bs, ns ++ [5], 0, dx, hb, by simp, by omega, by omega⟩ fun b o eb => ?_
        have b1 := sm b o eb
        have b2 := (upd_ne (o := .lst (ns.map V.int)) (ne_of_none b1 nl)).trans b1
        have b3 := (upd_ne (o := .lst [V.int 5]) (ne_of_none b2 ne)).trans b2
        have b4 := (upd_ne (o := .lst (ns.map V.int ++ [V.int 5])) (ne_of_none b3 nr)).trans b3
        have b5 := ne_of_none b4 nst
        exact (ap_iff dx).mpr ⟨(upd_ne b5).trans b4, b5, ne_of_none eb nD, ne_of_none b3 nr⟩
end
end Lw

namespace Lw
open PySem PySem.Spec PyProof.Rows L2
abbrev s_law_signs : Stmt := topS 25
abbrev n_law_signs : List Str := ["_law_signs_here"]
theorem sc_law_signs : FnScope n_law_signs [] (defScope s_law_signs) := ⟨rfl, rfl, rfl, by decide +kernel, rfl, by decide +kernel, by decide +kernel⟩
section
variable {P : Program} {w : World} {K : PySem.W.Frag} {mg : Str → Option Value} {base : Heap}
/-- the signs -/
def sp_signs : Sp := fun vs H Q _ => vs = [] ∧ ∀ z : Str, z.length = 95 → SOk z → Q (.str z) H
theorem ok_signs {f : Addr} {fd : FuncData} {k : Nat} (F : Fun K "_law_signs" "_law_signs" s_law_signs f fd) : FnOk P w K mg base CX0 (k + 1) f fd [] sp_signs := by
  refine F.ok sc_law_signs (fun vs H Q E h => ?_) (fun cdv A outer s H vs Q E hr h => ?_)
  · obtain ⟨rfl, _⟩ := h
    rfl
  · obtain ⟨rfl, hQ⟩ := h
    refine ⟨_, (pss_cons (ps_set (i := 0) sc_law_signs.nd rfl (by first | exact .inl rfl | exact .inr rfl) pe_str)
  (pss_one (ps_ret (pe_op op_add_str (pv 0) pe_str)))), ?_⟩
    refine ⟨_, rfl, _, _, rfl, rfl, by decide +kernel, hQ _ (by decide +kernel) ?_⟩
    unfold SOk
    decide +kernel
end
end Lw

namespace Lw
open PySem PySem.Spec PyProof.Rows L2
/-- the fields of the twenty classes, by the places of their arguments -/
def FL : List (List (Str × Nat)) := [[("name", 0)], [("name", 1)], [("name", 2)], [("count", 3)], [("value", 4)], [("worth", 5)], [("name", 7), ("value", 6)], [("text", 8)], [("price", 9)], [("value", 10)], [("value", 11)], [("names", 12)], [("value", 13)], [("name", 14)], [("value", 15)], [("steps", 16)], [("sharing", 17)], [("bound", 18)], [], []]
def fsA (t : List V) (k : Nat) : List (Str × V) := (FL.getD k []).map fun p => (p.1, t.getD p.2 .non)
def MadeAt (C : Nat → Addr) (t : List V) (H : Hp) (v : V) (k : Nat) : Prop := ErAt (C k) (fsA t k) H v
theorem MadeAt.ex {C : Nat → Addr} {t : List V} {H H' : Hp} {v : V} {k : Nat} (e : Evl.Ex H H') (h : MadeAt C t H v k) : MadeAt C t H' v k := ErAt.ex e h
/-- what the top says of the classes, one of another -/
structure Kin (K : PySem.W.Frag) (C : Nat → Addr) (CE : Addr) : Prop where
  I : ∀ k, k < 20 → IsC K (C k)
  one : ∀ k j, k < 20 → j < 20 → PySem.W.kitOne K (.ref (C k)) (.ref (C j)) = some (decide (j = k))
  be : ∀ k, k < 20 → PySem.W.kitOne K (.ref (C k)) (.ref CE) = some true
  ve : ∀ k, k < 20 → PySem.W.kitOne K (.ref (C k)) (.type "ValueError") = some true
def kindsV (k : Nat) (js : List Nat) : List V := js.map fun j => .bl (decide (j = k))
abbrev s_law_kinds : Stmt := topS 26
abbrev n_law_kinds : List Str := ["_law_e", "_law_kinds_here"]
theorem sc_law_kinds : FnScope n_law_kinds ["_law_e"] (defScope s_law_kinds) := ⟨rfl, rfl, rfl, by decide +kernel, rfl, by decide +kernel, by decide +kernel⟩
section
variable {P : Program} {w : World} {K : PySem.W.Frag} {mg : Str → Option Value} {base : Heap}
def sp_kinds (C : Nat → Addr) : Sp := fun vs H Q _ => ∃ (a : Addr) (k : Nat) (fs : List (Str × V)), vs = [.ref a] ∧ k < 20 ∧ ErAt (C k) fs H (.ref a) ∧ ∀ p H2, Evl.Ex H H2 → H p = none → H2 p = some (.lst (kindsV k (List.range 20))) → Q (.ref p) H2
theorem ok_kinds {f CE : Addr} {fd : FuncData} {n : Nat} {C : Nat → Addr} (F : Fun K "_law_kinds" "_law_kinds" s_law_kinds f fd) (N : Kin K C CE)
    (g_BadName : mg "BadName" = some (.ref (C 0))) (g_DuplicateName : mg "DuplicateName" = some (.ref (C 1))) (g_UnknownName : mg "UnknownName" = some (.ref (C 2))) (g_BadCount : mg "BadCount" = some (.ref (C 3))) (g_BadBundle : mg "BadBundle" = some (.ref (C 4))) (g_BadWorth : mg "BadWorth" = some (.ref (C 5))) (g_NotRising : mg "NotRising" = some (.ref (C 6))) (g_BadText : mg "BadText" = some (.ref (C 7))) (g_BadPrice : mg "BadPrice" = some (.ref (C 8))) (g_BadUnit : mg "BadUnit" = some (.ref (C 9))) (g_BadFactor : mg "BadFactor" = some (.ref (C 10))) (g_UnlikeGoods : mg "UnlikeGoods" = some (.ref (C 11))) (g_NotWanted : mg "NotWanted" = some (.ref (C 12))) (g_NotHigher : mg "NotHigher" = some (.ref (C 13))) (g_NotNested : mg "NotNested" = some (.ref (C 14))) (g_BadSteps : mg "BadSteps" = some (.ref (C 15))) (g_BadSharing : mg "BadSharing" = some (.ref (C 16))) (g_BadBound : mg "BadBound" = some (.ref (C 17))) (g_IsSubstitutes : mg "IsSubstitutes" = some (.ref (C 18))) (g_NothingToUndo : mg "NothingToUndo" = some (.ref (C 19))) (m_isinstance : mg "isinstance" = none) : FnOk P w K mg base CX0 (n + 1) f fd ["_law_e"] (sp_kinds C) := by
  refine F.ok sc_law_kinds (fun vs H Q E h => ?_) (fun cdv A outer s H vs Q E hr h => ?_)
  · obtain ⟨a, k, fs, rfl, _⟩ := h
    rfl
  · obtain ⟨a, k, fs, rfl, hk, hE, hQ⟩ := h
    refine ⟨_, (pss_cons (ps_set (i := 1) sc_law_kinds.nd rfl (by first | exact .inl rfl | exact .inr rfl) (pe_lst (pa_cons (pe_callB call_isW (by rfl) m_isinstance (by decide +kernel) (pa_cons (pv 0) (pa_cons (pe_cls (by rfl) g_BadName) pa_nil))) (pa_cons (pe_callB call_isW (by rfl) m_isinstance (by decide +kernel) (pa_cons (pv 0) (pa_cons (pe_cls (by rfl) g_DuplicateName) pa_nil))) (pa_cons (pe_callB call_isW (by rfl) m_isinstance (by decide +kernel) (pa_cons (pv 0) (pa_cons (pe_cls (by rfl) g_UnknownName) pa_nil))) pa_nil)))))
  (pss_cons (ps_set (i := 1) sc_law_kinds.nd rfl (by first | exact .inl rfl | exact .inr rfl) (pe_op op_cat (pv 1) (pe_lst (pa_cons (pe_callB call_isW (by rfl) m_isinstance (by decide +kernel) (pa_cons (pv 0) (pa_cons (pe_cls (by rfl) g_BadCount) pa_nil))) (pa_cons (pe_callB call_isW (by rfl) m_isinstance (by decide +kernel) (pa_cons (pv 0) (pa_cons (pe_cls (by rfl) g_BadBundle) pa_nil))) (pa_cons (pe_callB call_isW (by rfl) m_isinstance (by decide +kernel) (pa_cons (pv 0) (pa_cons (pe_cls (by rfl) g_BadWorth) pa_nil))) pa_nil))))))
  (pss_cons (ps_set (i := 1) sc_law_kinds.nd rfl (by first | exact .inl rfl | exact .inr rfl) (pe_op op_cat (pv 1) (pe_lst (pa_cons (pe_callB call_isW (by rfl) m_isinstance (by decide +kernel) (pa_cons (pv 0) (pa_cons (pe_cls (by rfl) g_NotRising) pa_nil))) (pa_cons (pe_callB call_isW (by rfl) m_isinstance (by decide +kernel) (pa_cons (pv 0) (pa_cons (pe_cls (by rfl) g_BadText) pa_nil))) (pa_cons (pe_callB call_isW (by rfl) m_isinstance (by decide +kernel) (pa_cons (pv 0) (pa_cons (pe_cls (by rfl) g_BadPrice) pa_nil))) pa_nil))))))
  (pss_cons (ps_set (i := 1) sc_law_kinds.nd rfl (by first | exact .inl rfl | exact .inr rfl) (pe_op op_cat (pv 1) (pe_lst (pa_cons (pe_callB call_isW (by rfl) m_isinstance (by decide +kernel) (pa_cons (pv 0) (pa_cons (pe_cls (by rfl) g_BadUnit) pa_nil))) (pa_cons (pe_callB call_isW (by rfl) m_isinstance (by decide +kernel) (pa_cons (pv 0) (pa_cons (pe_cls (by rfl) g_BadFactor) pa_nil))) (pa_cons (pe_callB call_isW (by rfl) m_isinstance (by decide +kernel) (pa_cons (pv 0) (pa_cons (pe_cls (by rfl) g_UnlikeGoods) pa_nil))) pa_nil))))))
  (pss_cons (ps_set (i := 1) sc_law_kinds.nd rfl (by first | exact .inl rfl | exact .inr rfl) (pe_op op_cat (pv 1) (pe_lst (pa_cons (pe_callB call_isW (by rfl) m_isinstance (by decide +kernel) (pa_cons (pv 0) (pa_cons (pe_cls (by rfl) g_NotWanted) pa_nil))) (pa_cons (pe_callB call_isW (by rfl) m_isinstance (by decide +kernel) (pa_cons (pv 0) (pa_cons (pe_cls (by rfl) g_NotHigher) pa_nil))) (pa_cons (pe_callB call_isW (by rfl) m_isinstance (by decide +kernel) (pa_cons (pv 0) (pa_cons (pe_cls (by rfl) g_NotNested) pa_nil))) pa_nil))))))
  (pss_cons (ps_set (i := 1) sc_law_kinds.nd rfl (by first | exact .inl rfl | exact .inr rfl) (pe_op op_cat (pv 1) (pe_lst (pa_cons (pe_callB call_isW (by rfl) m_isinstance (by decide +kernel) (pa_cons (pv 0) (pa_cons (pe_cls (by rfl) g_BadSteps) pa_nil))) (pa_cons (pe_callB call_isW (by rfl) m_isinstance (by decide +kernel) (pa_cons (pv 0) (pa_cons (pe_cls (by rfl) g_BadSharing) pa_nil))) (pa_cons (pe_callB call_isW (by rfl) m_isinstance (by decide +kernel) (pa_cons (pv 0) (pa_cons (pe_cls (by rfl) g_BadBound) pa_nil))) pa_nil))))))
  (pss_one (ps_ret (pe_op op_cat (pv 1) (pe_lst (pa_cons (pe_callB call_isW (by rfl) m_isinstance (by decide +kernel) (pa_cons (pv 0) (pa_cons (pe_cls (by rfl) g_IsSubstitutes) pa_nil))) (pa_cons (pe_callB call_isW (by rfl) m_isinstance (by decide +kernel) (pa_cons (pv 0) (pa_cons (pe_cls (by rfl) g_NothingToUndo) pa_nil))) pa_nil)))))))))))), ?_⟩
    have is : ∀ {H1 : Hp} {σ : L2.St} (j : Nat), j < 20 → σ[0]? = some (some (.ref a)) → Evl.Ex H H1 → Evl.Ev (tCB (rIsW K) (tCons (tVar 0) (tCons (tC (.ref (C j))) tNil))) σ H1 (.bl (decide (j = k))) := fun {H1 σ} j hj h0 e =>
      Evl.ev_cb (Evl.ea_cons (Evl.ev_var h0) (Evl.ea_cons Evl.ev_c Evl.ea_nil)) (rc_isW (N.I k hk) (hE.ex e) (.own _) (N.one k j hk hj))
    have l3 : ∀ {H1 : Hp} {σ : L2.St} (i j l : Nat), i < 20 → j < 20 → l < 20 → σ[0]? = some (some (.ref a)) → Evl.Ex H H1 → Evl.EvL (tLst (tCons (tCB (rIsW K) (tCons (tVar 0) (tCons (tC (.ref (C i))) tNil))) (tCons (tCB (rIsW K) (tCons (tVar 0) (tCons (tC (.ref (C j))) tNil))) (tCons (tCB (rIsW K) (tCons (tVar 0) (tCons (tC (.ref (C l))) tNil))) tNil)))) σ H1 (kindsV k [i, j, l]) := fun {H1 σ} i j l hi hj hl h0 e =>
      Evl.el_lst (Evl.ea_cons (is i hi h0 e) (Evl.ea_cons (is j hj h0 e) (Evl.ea_cons (is l hl h0 e) Evl.ea_nil))) (by show 3 ≤ 100000; decide)
    dsimp only [gName]
    refine Evl.q_asgL (l3 0 1 2 (by decide) (by decide) (by decide) rfl (Evl.Ex.refl _)) fun p1 H1 np1 e1 hp1 => ?_
    refine Evl.q_asgL (el_catV (ys := kindsV k [3, 4, 5]) rfl hp1 (l3 3 4 5 (by decide) (by decide) (by decide) rfl e1) (by show 6 ≤ 100000; decide)) fun p2 H2 np2 e2 hp2 => ?_
    refine Evl.q_asgL (el_catV (ys := kindsV k [6, 7, 8]) rfl hp2 (l3 6 7 8 (by decide) (by decide) (by decide) rfl (e1.trans e2)) (by show 9 ≤ 100000; decide)) fun p3 H3 np3 e3 hp3 => ?_
    refine Evl.q_asgL (el_catV (ys := kindsV k [9, 10, 11]) rfl hp3 (l3 9 10 11 (by decide) (by decide) (by decide) rfl ((e1.trans e2).trans e3)) (by show 12 ≤ 100000; decide)) fun p4 H4 np4 e4 hp4 => ?_
    refine Evl.q_asgL (el_catV (ys := kindsV k [12, 13, 14]) rfl hp4 (l3 12 13 14 (by decide) (by decide) (by decide) rfl (((e1.trans e2).trans e3).trans e4)) (by show 15 ≤ 100000; decide)) fun p5 H5 np5 e5 hp5 => ?_
    refine Evl.q_asgL (el_catV (ys := kindsV k [15, 16, 17]) rfl hp5 (l3 15 16 17 (by decide) (by decide) (by decide) rfl ((((e1.trans e2).trans e3).trans e4).trans e5)) (by show 18 ≤ 100000; decide)) fun p6 H6 np6 e6 hp6 => ?_
    have e06 := ((((e1.trans e2).trans e3).trans e4).trans e5).trans e6
    refine Evl.s_retL (el_catV (ys := kindsV k [18, 19]) rfl hp6 (Evl.el_lst (Evl.ea_cons (is 18 (by decide) rfl e06) (Evl.ea_cons (is 19 (by decide) rfl e06) Evl.ea_nil)) (by show 2 ≤ 100000; decide)) (by show 20 ≤ 100000; decide)) fun p7 H7 np7 e7 hp7 => ?_
    exact hQ p7 H7 (e06.trans e7) (Evl.fresh_back e06 np7) hp7
end
end Lw

namespace Lw
open PySem PySem.Spec PyProof.Rows L2
def sp_made (C : Nat → Addr) : Sp := fun vs H Q _ => ∃ (q : Addr) (t : List V), vs = [.ref q] ∧ H q = some (.lst t) ∧ t.length = 19 ∧ ∀ p xs H2, Evl.Ex H H2 → H p = none → H2 p = some (.lst xs) → Rels (MadeAt C t) H2 xs [0, 1, 2, 3, 4, 5, 6, 7, 8, 9, 10, 11, 12, 13, 14, 15, 16, 17, 18, 19] → Q (.ref p) H2
theorem t_at {t : List V} (h : t.length = 19) {i : Nat} (hi : i < 19) : atI t (i : Int) = some (t.getD i .non) := by
  rw [List.getD_eq_getElem?_getD, List.getElem?_eq_getElem (by omega : i < t.length)]
  exact atI_nat (List.getElem?_eq_getElem (by omega))
abbrev s_law_all : Stmt := topS 28
abbrev n_law_all : List Str := ["_law_t", "_law_made"]
theorem sc_law_all : FnScope n_law_all ["_law_t"] (defScope s_law_all) := ⟨rfl, rfl, rfl, by decide +kernel, rfl, by decide +kernel, by decide +kernel⟩
section
variable {P : Program} {w : World} {K : PySem.W.Frag} {mg : Str → Option Value} {base : Heap}
theorem ok_law_all {f : Addr} {fd : FuncData} {C : Nat → Addr} (F : Fun K "_law_all" "_law_all" s_law_all f fd) {I0 I1 I2 I3 I4 I5 I6 I7 I8 I9 I10 I11 I12 I13 I14 I15 I16 I17 : Addr} {fd0 fd1 fd2 fd3 fd4 fd5 fd6 fd7 fd8 fd9 fd10 fd11 fd12 fd13 fd14 fd15 fd16 fd17 : FuncData}
    (E0 : ErC P w K mg base "BadName" "name" (C 0) I0 fd0)
    (E1 : ErC P w K mg base "DuplicateName" "name" (C 1) I1 fd1)
    (E2 : ErC P w K mg base "UnknownName" "name" (C 2) I2 fd2)
    (E3 : ErC P w K mg base "BadCount" "count" (C 3) I3 fd3)
    (E4 : ErC P w K mg base "BadBundle" "value" (C 4) I4 fd4)
    (E5 : ErC P w K mg base "BadWorth" "worth" (C 5) I5 fd5)
    (E6 : ErC2 P w K mg base "NotRising" "value" "name" (C 6) I6 fd6)
    (E7 : ErC P w K mg base "BadText" "text" (C 7) I7 fd7)
    (E8 : ErC P w K mg base "BadPrice" "price" (C 8) I8 fd8)
    (E9 : ErC P w K mg base "BadUnit" "value" (C 9) I9 fd9)
    (E10 : ErC P w K mg base "BadFactor" "value" (C 10) I10 fd10)
    (E11 : ErC P w K mg base "UnlikeGoods" "names" (C 11) I11 fd11)
    (E12 : ErC P w K mg base "NotWanted" "value" (C 12) I12 fd12)
    (E13 : ErC P w K mg base "NotHigher" "name" (C 13) I13 fd13)
    (E14 : ErC P w K mg base "NotNested" "value" (C 14) I14 fd14)
    (E15 : ErC P w K mg base "BadSteps" "steps" (C 15) I15 fd15)
    (E16 : ErC P w K mg base "BadSharing" "sharing" (C 16) I16 fd16)
    (E17 : ErC P w K mg base "BadBound" "bound" (C 17) I17 fd17)
    (x18 : PySem.W.excIn K (C 18) [.type "ValueError", .type "Exception", .type "BaseException", .type "object"] "ValueError.__new__" = true) (g18 : mg "IsSubstitutes" = some (.ref (C 18))) (k18 : PySem.W.keepIn K (.ref (C 18)) = true)
    (x19 : PySem.W.excIn K (C 19) [.type "ValueError", .type "Exception", .type "BaseException", .type "object"] "ValueError.__new__" = true) (g19 : mg "NothingToUndo" = some (.ref (C 19))) (k19 : PySem.W.keepIn K (.ref (C 19)) = true)
     : FnOk P w K mg base CX0 3 f fd ["_law_t"] (sp_made C) := by
  refine F.ok sc_law_all (fun vs H Q E h => ?_) (fun cdv A outer s H vs Q E hr h => ?_)
  · obtain ⟨q, t, rfl, _⟩ := h
    rfl
  · obtain ⟨q, t, rfl, hq, hl, hQ⟩ := h
    refine ⟨_, (pss_cons (ps_set (i := 1) sc_law_all.nd rfl (by first | exact .inl rfl | exact .inr rfl) (pe_lst (pa_cons (pe_oex E0.O E0.i E0.t E0.G (hr.mono (by decide)) E0.b .nil pass0 (by rfl) E0.g (pa_cons (pe_ix ix_list (pv 0) pe_int (fun _ _ => rfl)) pa_nil)) (pa_cons (pe_oex E1.O E1.i E1.t E1.G (hr.mono (by decide)) E1.b .nil pass0 (by rfl) E1.g (pa_cons (pe_ix ix_list (pv 0) pe_int (fun _ _ => rfl)) pa_nil)) (pa_cons (pe_oex E2.O E2.i E2.t E2.G (hr.mono (by decide)) E2.b .nil pass0 (by rfl) E2.g (pa_cons (pe_ix ix_list (pv 0) pe_int (fun _ _ => rfl)) pa_nil)) (pa_cons (pe_oex E3.O E3.i E3.t E3.G (hr.mono (by decide)) E3.b .nil pass0 (by rfl) E3.g (pa_cons (pe_ix ix_list (pv 0) pe_int (fun _ _ => rfl)) pa_nil)) (pa_cons (pe_oex E4.O E4.i E4.t E4.G (hr.mono (by decide)) E4.b .nil pass0 (by rfl) E4.g (pa_cons (pe_ix ix_list (pv 0) pe_int (fun _ _ => rfl)) pa_nil)) pa_nil)))))))
  (pss_cons (ps_set (i := 1) sc_law_all.nd rfl (by first | exact .inl rfl | exact .inr rfl) (pe_op op_cat (pv 1) (pe_lst (pa_cons (pe_oex E5.O E5.i E5.t E5.G (hr.mono (by decide)) E5.b .nil pass0 (by rfl) E5.g (pa_cons (pe_ix ix_list (pv 0) pe_int (fun _ _ => rfl)) pa_nil)) (pa_cons (pe_oex E6.O E6.i E6.t E6.G (hr.mono (by decide)) E6.b .nil pass0 (by rfl) E6.g (pa_cons (pe_ix ix_list (pv 0) pe_int (fun _ _ => rfl)) (pa_cons (pe_ix ix_list (pv 0) pe_int (fun _ _ => rfl)) pa_nil))) (pa_cons (pe_oex E7.O E7.i E7.t E7.G (hr.mono (by decide)) E7.b .nil pass0 (by rfl) E7.g (pa_cons (pe_ix ix_list (pv 0) pe_int (fun _ _ => rfl)) pa_nil)) (pa_cons (pe_oex E8.O E8.i E8.t E8.G (hr.mono (by decide)) E8.b .nil pass0 (by rfl) E8.g (pa_cons (pe_ix ix_list (pv 0) pe_int (fun _ _ => rfl)) pa_nil)) (pa_cons (pe_oex E9.O E9.i E9.t E9.G (hr.mono (by decide)) E9.b .nil pass0 (by rfl) E9.g (pa_cons (pe_ix ix_list (pv 0) pe_int (fun _ _ => rfl)) pa_nil)) pa_nil))))))))
  (pss_cons (ps_set (i := 1) sc_law_all.nd rfl (by first | exact .inl rfl | exact .inr rfl) (pe_op op_cat (pv 1) (pe_lst (pa_cons (pe_oex E10.O E10.i E10.t E10.G (hr.mono (by decide)) E10.b .nil pass0 (by rfl) E10.g (pa_cons (pe_ix ix_list (pv 0) pe_int (fun _ _ => rfl)) pa_nil)) (pa_cons (pe_oex E11.O E11.i E11.t E11.G (hr.mono (by decide)) E11.b .nil pass0 (by rfl) E11.g (pa_cons (pe_ix ix_list (pv 0) pe_int (fun _ _ => rfl)) pa_nil)) (pa_cons (pe_oex E12.O E12.i E12.t E12.G (hr.mono (by decide)) E12.b .nil pass0 (by rfl) E12.g (pa_cons (pe_ix ix_list (pv 0) pe_int (fun _ _ => rfl)) pa_nil)) (pa_cons (pe_oex E13.O E13.i E13.t E13.G (hr.mono (by decide)) E13.b .nil pass0 (by rfl) E13.g (pa_cons (pe_ix ix_list (pv 0) pe_int (fun _ _ => rfl)) pa_nil)) (pa_cons (pe_oex E14.O E14.i E14.t E14.G (hr.mono (by decide)) E14.b .nil pass0 (by rfl) E14.g (pa_cons (pe_ix ix_list (pv 0) pe_int (fun _ _ => rfl)) pa_nil)) pa_nil))))))))
  (pss_one (ps_ret (pe_op op_cat (pv 1) (pe_lst (pa_cons (pe_oex E15.O E15.i E15.t E15.G (hr.mono (by decide)) E15.b .nil pass0 (by rfl) E15.g (pa_cons (pe_ix ix_list (pv 0) pe_int (fun _ _ => rfl)) pa_nil)) (pa_cons (pe_oex E16.O E16.i E16.t E16.G (hr.mono (by decide)) E16.b .nil pass0 (by rfl) E16.g (pa_cons (pe_ix ix_list (pv 0) pe_int (fun _ _ => rfl)) pa_nil)) (pa_cons (pe_oex E17.O E17.i E17.t E17.G (hr.mono (by decide)) E17.b .nil pass0 (by rfl) E17.g (pa_cons (pe_ix ix_list (pv 0) pe_int (fun _ _ => rfl)) pa_nil)) (pa_cons (pe_oex0 PySem.F.excBase_ValueError x18 g18 k18 (by rfl)) (pa_cons (pe_oex0 PySem.F.excBase_ValueError x19 g19 k19 (by rfl)) pa_nil)))))))))))), ?_⟩
    have at_ : ∀ {H1 : Hp} {σ : L2.St} (i : Nat), i < 19 → σ[0]? = some (some (.ref q)) → Evl.Ex H H1 → Evl.Ev (tOp (rIxL K) (tVar 0) (tC (.int (i : Int)))) σ H1 (t.getD i .non) := fun {H1 σ} i hi h0 e => Evl.ev_op (Evl.ev_var h0) Evl.ev_c (Evl.rv_ixL (Evl.sq_of (e _ _ hq)) (t_at hl hi))
    have m0 : ∀ {H1 : Hp} {σ : L2.St}, σ[0]? = some (some (.ref q)) → Evl.Ex H H1 → EvR (fun H v => MadeAt C t H v 0) (tMkV (C 0) (sp_init1 K (C 0) "name") [] (tCons (tOp (rIxL K) (tVar 0) (tC (.int 0))) tNil)) σ H1 := fun {H1 σ} h0 e => evr_mk1 (at_ 0 (by decide) h0 e)
    have m1 : ∀ {H1 : Hp} {σ : L2.St}, σ[0]? = some (some (.ref q)) → Evl.Ex H H1 → EvR (fun H v => MadeAt C t H v 1) (tMkV (C 1) (sp_init1 K (C 1) "name") [] (tCons (tOp (rIxL K) (tVar 0) (tC (.int 1))) tNil)) σ H1 := fun {H1 σ} h0 e => evr_mk1 (at_ 1 (by decide) h0 e)
    have m2 : ∀ {H1 : Hp} {σ : L2.St}, σ[0]? = some (some (.ref q)) → Evl.Ex H H1 → EvR (fun H v => MadeAt C t H v 2) (tMkV (C 2) (sp_init1 K (C 2) "name") [] (tCons (tOp (rIxL K) (tVar 0) (tC (.int 2))) tNil)) σ H1 := fun {H1 σ} h0 e => evr_mk1 (at_ 2 (by decide) h0 e)
    have m3 : ∀ {H1 : Hp} {σ : L2.St}, σ[0]? = some (some (.ref q)) → Evl.Ex H H1 → EvR (fun H v => MadeAt C t H v 3) (tMkV (C 3) (sp_init1 K (C 3) "count") [] (tCons (tOp (rIxL K) (tVar 0) (tC (.int 3))) tNil)) σ H1 := fun {H1 σ} h0 e => evr_mk1 (at_ 3 (by decide) h0 e)
    have m4 : ∀ {H1 : Hp} {σ : L2.St}, σ[0]? = some (some (.ref q)) → Evl.Ex H H1 → EvR (fun H v => MadeAt C t H v 4) (tMkV (C 4) (sp_init1 K (C 4) "value") [] (tCons (tOp (rIxL K) (tVar 0) (tC (.int 4))) tNil)) σ H1 := fun {H1 σ} h0 e => evr_mk1 (at_ 4 (by decide) h0 e)
    have m5 : ∀ {H1 : Hp} {σ : L2.St}, σ[0]? = some (some (.ref q)) → Evl.Ex H H1 → EvR (fun H v => MadeAt C t H v 5) (tMkV (C 5) (sp_init1 K (C 5) "worth") [] (tCons (tOp (rIxL K) (tVar 0) (tC (.int 5))) tNil)) σ H1 := fun {H1 σ} h0 e => evr_mk1 (at_ 5 (by decide) h0 e)
    have m6 : ∀ {H1 : Hp} {σ : L2.St}, σ[0]? = some (some (.ref q)) → Evl.Ex H H1 → EvR (fun H v => MadeAt C t H v 6) (tMkV (C 6) (sp_init2 K (C 6) "value" "name") [] (tCons (tOp (rIxL K) (tVar 0) (tC (.int 6))) (tCons (tOp (rIxL K) (tVar 0) (tC (.int 7))) tNil))) σ H1 := fun {H1 σ} h0 e => evr_mk2 (at_ 6 (by decide) h0 e) (at_ 7 (by decide) h0 e)
    have m7 : ∀ {H1 : Hp} {σ : L2.St}, σ[0]? = some (some (.ref q)) → Evl.Ex H H1 → EvR (fun H v => MadeAt C t H v 7) (tMkV (C 7) (sp_init1 K (C 7) "text") [] (tCons (tOp (rIxL K) (tVar 0) (tC (.int 8))) tNil)) σ H1 := fun {H1 σ} h0 e => evr_mk1 (at_ 8 (by decide) h0 e)
    have m8 : ∀ {H1 : Hp} {σ : L2.St}, σ[0]? = some (some (.ref q)) → Evl.Ex H H1 → EvR (fun H v => MadeAt C t H v 8) (tMkV (C 8) (sp_init1 K (C 8) "price") [] (tCons (tOp (rIxL K) (tVar 0) (tC (.int 9))) tNil)) σ H1 := fun {H1 σ} h0 e => evr_mk1 (at_ 9 (by decide) h0 e)
    have m9 : ∀ {H1 : Hp} {σ : L2.St}, σ[0]? = some (some (.ref q)) → Evl.Ex H H1 → EvR (fun H v => MadeAt C t H v 9) (tMkV (C 9) (sp_init1 K (C 9) "value") [] (tCons (tOp (rIxL K) (tVar 0) (tC (.int 10))) tNil)) σ H1 := fun {H1 σ} h0 e => evr_mk1 (at_ 10 (by decide) h0 e)
    have m10 : ∀ {H1 : Hp} {σ : L2.St}, σ[0]? = some (some (.ref q)) → Evl.Ex H H1 → EvR (fun H v => MadeAt C t H v 10) (tMkV (C 10) (sp_init1 K (C 10) "value") [] (tCons (tOp (rIxL K) (tVar 0) (tC (.int 11))) tNil)) σ H1 := fun {H1 σ} h0 e => evr_mk1 (at_ 11 (by decide) h0 e)
    have m11 : ∀ {H1 : Hp} {σ : L2.St}, σ[0]? = some (some (.ref q)) → Evl.Ex H H1 → EvR (fun H v => MadeAt C t H v 11) (tMkV (C 11) (sp_init1 K (C 11) "names") [] (tCons (tOp (rIxL K) (tVar 0) (tC (.int 12))) tNil)) σ H1 := fun {H1 σ} h0 e => evr_mk1 (at_ 12 (by decide) h0 e)
    have m12 : ∀ {H1 : Hp} {σ : L2.St}, σ[0]? = some (some (.ref q)) → Evl.Ex H H1 → EvR (fun H v => MadeAt C t H v 12) (tMkV (C 12) (sp_init1 K (C 12) "value") [] (tCons (tOp (rIxL K) (tVar 0) (tC (.int 13))) tNil)) σ H1 := fun {H1 σ} h0 e => evr_mk1 (at_ 13 (by decide) h0 e)
    have m13 : ∀ {H1 : Hp} {σ : L2.St}, σ[0]? = some (some (.ref q)) → Evl.Ex H H1 → EvR (fun H v => MadeAt C t H v 13) (tMkV (C 13) (sp_init1 K (C 13) "name") [] (tCons (tOp (rIxL K) (tVar 0) (tC (.int 14))) tNil)) σ H1 := fun {H1 σ} h0 e => evr_mk1 (at_ 14 (by decide) h0 e)
    have m14 : ∀ {H1 : Hp} {σ : L2.St}, σ[0]? = some (some (.ref q)) → Evl.Ex H H1 → EvR (fun H v => MadeAt C t H v 14) (tMkV (C 14) (sp_init1 K (C 14) "value") [] (tCons (tOp (rIxL K) (tVar 0) (tC (.int 15))) tNil)) σ H1 := fun {H1 σ} h0 e => evr_mk1 (at_ 15 (by decide) h0 e)
    have m15 : ∀ {H1 : Hp} {σ : L2.St}, σ[0]? = some (some (.ref q)) → Evl.Ex H H1 → EvR (fun H v => MadeAt C t H v 15) (tMkV (C 15) (sp_init1 K (C 15) "steps") [] (tCons (tOp (rIxL K) (tVar 0) (tC (.int 16))) tNil)) σ H1 := fun {H1 σ} h0 e => evr_mk1 (at_ 16 (by decide) h0 e)
    have m16 : ∀ {H1 : Hp} {σ : L2.St}, σ[0]? = some (some (.ref q)) → Evl.Ex H H1 → EvR (fun H v => MadeAt C t H v 16) (tMkV (C 16) (sp_init1 K (C 16) "sharing") [] (tCons (tOp (rIxL K) (tVar 0) (tC (.int 17))) tNil)) σ H1 := fun {H1 σ} h0 e => evr_mk1 (at_ 17 (by decide) h0 e)
    have m17 : ∀ {H1 : Hp} {σ : L2.St}, σ[0]? = some (some (.ref q)) → Evl.Ex H H1 → EvR (fun H v => MadeAt C t H v 17) (tMkV (C 17) (sp_init1 K (C 17) "bound") [] (tCons (tOp (rIxL K) (tVar 0) (tC (.int 18))) tNil)) σ H1 := fun {H1 σ} h0 e => evr_mk1 (at_ 18 (by decide) h0 e)
    have m18 : ∀ {H1 : Hp} {σ : L2.St}, σ[0]? = some (some (.ref q)) → Evl.Ex H H1 → EvR (fun H v => MadeAt C t H v 18) (fun _ H Q => ∀ a, H a = none → Q (.ref a) (upd H a (exo a (C 18) none))) σ H1 := fun {H1 σ} h0 e => evr_mk0
    have m19 : ∀ {H1 : Hp} {σ : L2.St}, σ[0]? = some (some (.ref q)) → Evl.Ex H H1 → EvR (fun H v => MadeAt C t H v 19) (fun _ H Q => ∀ a, H a = none → Q (.ref a) (upd H a (exo a (C 19) none))) σ H1 := fun {H1 σ} h0 e => evr_mk0
    dsimp only [gName]
    refine q_asgR (R := MadeAt C t) (bs := [0, 1, 2, 3, 4]) (elr_lst (R := MadeAt C t) (bs := [0, 1, 2, 3, 4]) MadeAt.ex (ear_cons (R := MadeAt C t) MadeAt.ex (m0 rfl (Evl.Ex.refl _)) (ear_cons (R := MadeAt C t) MadeAt.ex (m1 rfl (Evl.Ex.refl _)) (ear_cons (R := MadeAt C t) MadeAt.ex (m2 rfl (Evl.Ex.refl _)) (ear_cons (R := MadeAt C t) MadeAt.ex (m3 rfl (Evl.Ex.refl _)) (ear_cons (R := MadeAt C t) MadeAt.ex (m4 rfl (Evl.Ex.refl _)) ear_nil))))) (by decide)) fun p1 x1 H1 np1 e1 hp1 r1 => ?_
    refine q_asgR (R := MadeAt C t) (bs := [0, 1, 2, 3, 4] ++ [5, 6, 7, 8, 9]) (elr_catV (R := MadeAt C t) (bs := [0, 1, 2, 3, 4]) (cs := [5, 6, 7, 8, 9]) MadeAt.ex rfl hp1 r1 (elr_lst (R := MadeAt C t) (bs := [5, 6, 7, 8, 9]) MadeAt.ex (ear_cons (R := MadeAt C t) MadeAt.ex (m5 rfl e1) (ear_cons (R := MadeAt C t) MadeAt.ex (m6 rfl e1) (ear_cons (R := MadeAt C t) MadeAt.ex (m7 rfl e1) (ear_cons (R := MadeAt C t) MadeAt.ex (m8 rfl e1) (ear_cons (R := MadeAt C t) MadeAt.ex (m9 rfl e1) ear_nil))))) (by decide)) (by decide)) fun p2 x2 H2 np2 e2 hp2 r2 => ?_
    refine q_asgR (R := MadeAt C t) (bs := [0, 1, 2, 3, 4, 5, 6, 7, 8, 9] ++ [10, 11, 12, 13, 14]) (elr_catV (R := MadeAt C t) (bs := [0, 1, 2, 3, 4, 5, 6, 7, 8, 9]) (cs := [10, 11, 12, 13, 14]) MadeAt.ex rfl hp2 r2 (elr_lst (R := MadeAt C t) (bs := [10, 11, 12, 13, 14]) MadeAt.ex (ear_cons (R := MadeAt C t) MadeAt.ex (m10 rfl (e1.trans e2)) (ear_cons (R := MadeAt C t) MadeAt.ex (m11 rfl (e1.trans e2)) (ear_cons (R := MadeAt C t) MadeAt.ex (m12 rfl (e1.trans e2)) (ear_cons (R := MadeAt C t) MadeAt.ex (m13 rfl (e1.trans e2)) (ear_cons (R := MadeAt C t) MadeAt.ex (m14 rfl (e1.trans e2)) ear_nil))))) (by decide)) (by decide)) fun p3 x3 H3 np3 e3 hp3 r3 => ?_
    exact s_retR (R := MadeAt C t) (bs := [0, 1, 2, 3, 4, 5, 6, 7, 8, 9, 10, 11, 12, 13, 14] ++ [15, 16, 17, 18, 19]) (elr_catV (R := MadeAt C t) (bs := [0, 1, 2, 3, 4, 5, 6, 7, 8, 9, 10, 11, 12, 13, 14]) (cs := [15, 16, 17, 18, 19]) MadeAt.ex rfl hp3 r3 (elr_lst (R := MadeAt C t) (bs := [15, 16, 17, 18, 19]) MadeAt.ex (ear_cons (R := MadeAt C t) MadeAt.ex (m15 rfl ((e1.trans e2).trans e3)) (ear_cons (R := MadeAt C t) MadeAt.ex (m16 rfl ((e1.trans e2).trans e3)) (ear_cons (R := MadeAt C t) MadeAt.ex (m17 rfl ((e1.trans e2).trans e3)) (ear_cons (R := MadeAt C t) MadeAt.ex (m18 rfl ((e1.trans e2).trans e3)) (ear_cons (R := MadeAt C t) MadeAt.ex (m19 rfl ((e1.trans e2).trans e3)) ear_nil))))) (by decide)) (by decide)) fun p xs H9 np e9 hp r => hQ p xs H9 (((e1.trans e2).trans e3).trans e9) (Evl.fresh_back ((e1.trans e2).trans e3) np) hp r
end
end Lw

namespace Lw
open PySem PySem.Spec PyProof.Rows L2
abbrev s_law_named : Stmt := topS 29
abbrev n_law_named : List Str := ["_law_t", "_law_made"]
theorem sc_law_named : FnScope n_law_named ["_law_t"] (defScope s_law_named) := ⟨rfl, rfl, rfl, by decide +kernel, rfl, by decide +kernel, by decide +kernel⟩
section
variable {P : Program} {w : World} {K : PySem.W.Frag} {mg : Str → Option Value} {base : Heap}
theorem ok_law_named {f : Addr} {fd : FuncData} {C : Nat → Addr} (F : Fun K "_law_named" "_law_named" s_law_named f fd) {I0 I1 I2 I3 I4 I5 I6 I7 I8 I9 I10 I11 I12 I13 I14 I15 I16 I17 : Addr} {fd0 fd1 fd2 fd3 fd4 fd5 fd6 fd7 fd8 fd9 fd10 fd11 fd12 fd13 fd14 fd15 fd16 fd17 : FuncData}
    (E0 : ErC P w K mg base "BadName" "name" (C 0) I0 fd0)
    (E1 : ErC P w K mg base "DuplicateName" "name" (C 1) I1 fd1)
    (E2 : ErC P w K mg base "UnknownName" "name" (C 2) I2 fd2)
    (E3 : ErC P w K mg base "BadCount" "count" (C 3) I3 fd3)
    (E4 : ErC P w K mg base "BadBundle" "value" (C 4) I4 fd4)
    (E5 : ErC P w K mg base "BadWorth" "worth" (C 5) I5 fd5)
    (E6 : ErC2 P w K mg base "NotRising" "value" "name" (C 6) I6 fd6)
    (E7 : ErC P w K mg base "BadText" "text" (C 7) I7 fd7)
    (E8 : ErC P w K mg base "BadPrice" "price" (C 8) I8 fd8)
    (E9 : ErC P w K mg base "BadUnit" "value" (C 9) I9 fd9)
    (E10 : ErC P w K mg base "BadFactor" "value" (C 10) I10 fd10)
    (E11 : ErC P w K mg base "UnlikeGoods" "names" (C 11) I11 fd11)
    (E12 : ErC P w K mg base "NotWanted" "value" (C 12) I12 fd12)
    (E13 : ErC P w K mg base "NotHigher" "name" (C 13) I13 fd13)
    (E14 : ErC P w K mg base "NotNested" "value" (C 14) I14 fd14)
    (E15 : ErC P w K mg base "BadSteps" "steps" (C 15) I15 fd15)
    (E16 : ErC P w K mg base "BadSharing" "sharing" (C 16) I16 fd16)
    (E17 : ErC P w K mg base "BadBound" "bound" (C 17) I17 fd17)
    (x18 : PySem.W.excIn K (C 18) [.type "ValueError", .type "Exception", .type "BaseException", .type "object"] "ValueError.__new__" = true) (g18 : mg "IsSubstitutes" = some (.ref (C 18))) (k18 : PySem.W.keepIn K (.ref (C 18)) = true)
    (x19 : PySem.W.excIn K (C 19) [.type "ValueError", .type "Exception", .type "BaseException", .type "object"] "ValueError.__new__" = true) (g19 : mg "NothingToUndo" = some (.ref (C 19))) (k19 : PySem.W.keepIn K (.ref (C 19)) = true)
     (kb0 : KBinds K fd0 ["self", "name"] ["name"] kwG kwG) (kb1 : KBinds K fd1 ["self", "name"] ["name"] kwG kwG) (kb2 : KBinds K fd2 ["self", "name"] ["name"] kwG kwG) (kb3 : KBinds K fd3 ["self", "count"] ["count"] kwG kwG) (kb4 : KBinds K fd4 ["self", "value"] ["value"] kwG kwG) (kb5 : KBinds K fd5 ["self", "worth"] ["worth"] kwG kwG) (kb6 : KBinds K fd6 ["self", "value", "name"] ["name", "value"] kwG2 kwG2) (kb7 : KBinds K fd7 ["self", "text"] ["text"] kwG kwG) (kb8 : KBinds K fd8 ["self", "price"] ["price"] kwG kwG) (kb9 : KBinds K fd9 ["self", "value"] ["value"] kwG kwG) (kb10 : KBinds K fd10 ["self", "value"] ["value"] kwG kwG) (kb11 : KBinds K fd11 ["self", "names"] ["names"] kwG kwG) (kb12 : KBinds K fd12 ["self", "value"] ["value"] kwG kwG) (kb13 : KBinds K fd13 ["self", "name"] ["name"] kwG kwG) (kb14 : KBinds K fd14 ["self", "value"] ["value"] kwG kwG) (kb15 : KBinds K fd15 ["self", "steps"] ["steps"] kwG kwG) (kb16 : KBinds K fd16 ["self", "sharing"] ["sharing"] kwG kwG) (kb17 : KBinds K fd17 ["self", "bound"] ["bound"] kwG kwG) : FnOk P w K mg base CX0 3 f fd ["_law_t"] (sp_made C) := by
  refine F.ok sc_law_named (fun vs H Q E h => ?_) (fun cdv A outer s H vs Q E hr h => ?_)
  · obtain ⟨q, t, rfl, _⟩ := h
    rfl
  · obtain ⟨q, t, rfl, hq, hl, hQ⟩ := h
    refine ⟨_, (pss_cons (ps_set (i := 1) sc_law_named.nd rfl (by first | exact .inl rfl | exact .inr rfl) (pe_lst (pa_cons (pe_oexK E0.O E0.i E0.t E0.G (hr.mono (by decide)) kb0 pass0 (by rfl) E0.g (pk_cons (pe_ix ix_list (pv 0) pe_int (fun _ _ => rfl)) pk_nil)) (pa_cons (pe_oexK E1.O E1.i E1.t E1.G (hr.mono (by decide)) kb1 pass0 (by rfl) E1.g (pk_cons (pe_ix ix_list (pv 0) pe_int (fun _ _ => rfl)) pk_nil)) (pa_cons (pe_oexK E2.O E2.i E2.t E2.G (hr.mono (by decide)) kb2 pass0 (by rfl) E2.g (pk_cons (pe_ix ix_list (pv 0) pe_int (fun _ _ => rfl)) pk_nil)) (pa_cons (pe_oexK E3.O E3.i E3.t E3.G (hr.mono (by decide)) kb3 pass0 (by rfl) E3.g (pk_cons (pe_ix ix_list (pv 0) pe_int (fun _ _ => rfl)) pk_nil)) pa_nil))))))
  (pss_cons (ps_set (i := 1) sc_law_named.nd rfl (by first | exact .inl rfl | exact .inr rfl) (pe_op op_cat (pv 1) (pe_lst (pa_cons (pe_oexK E4.O E4.i E4.t E4.G (hr.mono (by decide)) kb4 pass0 (by rfl) E4.g (pk_cons (pe_ix ix_list (pv 0) pe_int (fun _ _ => rfl)) pk_nil)) (pa_cons (pe_oexK E5.O E5.i E5.t E5.G (hr.mono (by decide)) kb5 pass0 (by rfl) E5.g (pk_cons (pe_ix ix_list (pv 0) pe_int (fun _ _ => rfl)) pk_nil)) (pa_cons (pe_oexK E6.O E6.i E6.t E6.G (hr.mono (by decide)) kb6 pass0 (by rfl) E6.g (pk_cons (pe_ix ix_list (pv 0) pe_int (fun _ _ => rfl)) (pk_cons (pe_ix ix_list (pv 0) pe_int (fun _ _ => rfl)) pk_nil))) (pa_cons (pe_oexK E7.O E7.i E7.t E7.G (hr.mono (by decide)) kb7 pass0 (by rfl) E7.g (pk_cons (pe_ix ix_list (pv 0) pe_int (fun _ _ => rfl)) pk_nil)) pa_nil)))))))
  (pss_cons (ps_set (i := 1) sc_law_named.nd rfl (by first | exact .inl rfl | exact .inr rfl) (pe_op op_cat (pv 1) (pe_lst (pa_cons (pe_oexK E8.O E8.i E8.t E8.G (hr.mono (by decide)) kb8 pass0 (by rfl) E8.g (pk_cons (pe_ix ix_list (pv 0) pe_int (fun _ _ => rfl)) pk_nil)) (pa_cons (pe_oexK E9.O E9.i E9.t E9.G (hr.mono (by decide)) kb9 pass0 (by rfl) E9.g (pk_cons (pe_ix ix_list (pv 0) pe_int (fun _ _ => rfl)) pk_nil)) (pa_cons (pe_oexK E10.O E10.i E10.t E10.G (hr.mono (by decide)) kb10 pass0 (by rfl) E10.g (pk_cons (pe_ix ix_list (pv 0) pe_int (fun _ _ => rfl)) pk_nil)) (pa_cons (pe_oexK E11.O E11.i E11.t E11.G (hr.mono (by decide)) kb11 pass0 (by rfl) E11.g (pk_cons (pe_ix ix_list (pv 0) pe_int (fun _ _ => rfl)) pk_nil)) pa_nil)))))))
  (pss_cons (ps_set (i := 1) sc_law_named.nd rfl (by first | exact .inl rfl | exact .inr rfl) (pe_op op_cat (pv 1) (pe_lst (pa_cons (pe_oexK E12.O E12.i E12.t E12.G (hr.mono (by decide)) kb12 pass0 (by rfl) E12.g (pk_cons (pe_ix ix_list (pv 0) pe_int (fun _ _ => rfl)) pk_nil)) (pa_cons (pe_oexK E13.O E13.i E13.t E13.G (hr.mono (by decide)) kb13 pass0 (by rfl) E13.g (pk_cons (pe_ix ix_list (pv 0) pe_int (fun _ _ => rfl)) pk_nil)) (pa_cons (pe_oexK E14.O E14.i E14.t E14.G (hr.mono (by decide)) kb14 pass0 (by rfl) E14.g (pk_cons (pe_ix ix_list (pv 0) pe_int (fun _ _ => rfl)) pk_nil)) (pa_cons (pe_oexK E15.O E15.i E15.t E15.G (hr.mono (by decide)) kb15 pass0 (by rfl) E15.g (pk_cons (pe_ix ix_list (pv 0) pe_int (fun _ _ => rfl)) pk_nil)) pa_nil)))))))
  (pss_one (ps_ret (pe_op op_cat (pv 1) (pe_lst (pa_cons (pe_oexK E16.O E16.i E16.t E16.G (hr.mono (by decide)) kb16 pass0 (by rfl) E16.g (pk_cons (pe_ix ix_list (pv 0) pe_int (fun _ _ => rfl)) pk_nil)) (pa_cons (pe_oexK E17.O E17.i E17.t E17.G (hr.mono (by decide)) kb17 pass0 (by rfl) E17.g (pk_cons (pe_ix ix_list (pv 0) pe_int (fun _ _ => rfl)) pk_nil)) (pa_cons (pe_oex0 PySem.F.excBase_ValueError x18 g18 k18 (by rfl)) (pa_cons (pe_oex0 PySem.F.excBase_ValueError x19 g19 k19 (by rfl)) pa_nil)))))))))))), ?_⟩
    have at_ : ∀ {H1 : Hp} {σ : L2.St} (i : Nat), i < 19 → σ[0]? = some (some (.ref q)) → Evl.Ex H H1 → Evl.Ev (tOp (rIxL K) (tVar 0) (tC (.int (i : Int)))) σ H1 (t.getD i .non) := fun {H1 σ} i hi h0 e => Evl.ev_op (Evl.ev_var h0) Evl.ev_c (Evl.rv_ixL (Evl.sq_of (e _ _ hq)) (t_at hl hi))
    have m0 : ∀ {H1 : Hp} {σ : L2.St}, σ[0]? = some (some (.ref q)) → Evl.Ex H H1 → EvR (fun H v => MadeAt C t H v 0) (tMkVK (C 0) (sp_init1 K (C 0) "name") kwG (tCons (tOp (rIxL K) (tVar 0) (tC (.int 0))) tNil)) σ H1 := fun {H1 σ} h0 e => evr_mkK1 (at_ 0 (by decide) h0 e)
    have m1 : ∀ {H1 : Hp} {σ : L2.St}, σ[0]? = some (some (.ref q)) → Evl.Ex H H1 → EvR (fun H v => MadeAt C t H v 1) (tMkVK (C 1) (sp_init1 K (C 1) "name") kwG (tCons (tOp (rIxL K) (tVar 0) (tC (.int 1))) tNil)) σ H1 := fun {H1 σ} h0 e => evr_mkK1 (at_ 1 (by decide) h0 e)
    have m2 : ∀ {H1 : Hp} {σ : L2.St}, σ[0]? = some (some (.ref q)) → Evl.Ex H H1 → EvR (fun H v => MadeAt C t H v 2) (tMkVK (C 2) (sp_init1 K (C 2) "name") kwG (tCons (tOp (rIxL K) (tVar 0) (tC (.int 2))) tNil)) σ H1 := fun {H1 σ} h0 e => evr_mkK1 (at_ 2 (by decide) h0 e)
    have m3 : ∀ {H1 : Hp} {σ : L2.St}, σ[0]? = some (some (.ref q)) → Evl.Ex H H1 → EvR (fun H v => MadeAt C t H v 3) (tMkVK (C 3) (sp_init1 K (C 3) "count") kwG (tCons (tOp (rIxL K) (tVar 0) (tC (.int 3))) tNil)) σ H1 := fun {H1 σ} h0 e => evr_mkK1 (at_ 3 (by decide) h0 e)
    have m4 : ∀ {H1 : Hp} {σ : L2.St}, σ[0]? = some (some (.ref q)) → Evl.Ex H H1 → EvR (fun H v => MadeAt C t H v 4) (tMkVK (C 4) (sp_init1 K (C 4) "value") kwG (tCons (tOp (rIxL K) (tVar 0) (tC (.int 4))) tNil)) σ H1 := fun {H1 σ} h0 e => evr_mkK1 (at_ 4 (by decide) h0 e)
    have m5 : ∀ {H1 : Hp} {σ : L2.St}, σ[0]? = some (some (.ref q)) → Evl.Ex H H1 → EvR (fun H v => MadeAt C t H v 5) (tMkVK (C 5) (sp_init1 K (C 5) "worth") kwG (tCons (tOp (rIxL K) (tVar 0) (tC (.int 5))) tNil)) σ H1 := fun {H1 σ} h0 e => evr_mkK1 (at_ 5 (by decide) h0 e)
    have m6 : ∀ {H1 : Hp} {σ : L2.St}, σ[0]? = some (some (.ref q)) → Evl.Ex H H1 → EvR (fun H v => MadeAt C t H v 6) (tMkVK (C 6) (sp_init2 K (C 6) "value" "name") kwG2 (tCons (tOp (rIxL K) (tVar 0) (tC (.int 7))) (tCons (tOp (rIxL K) (tVar 0) (tC (.int 6))) tNil))) σ H1 := fun {H1 σ} h0 e => evr_mkK2 (at_ 7 (by decide) h0 e) (at_ 6 (by decide) h0 e)
    have m7 : ∀ {H1 : Hp} {σ : L2.St}, σ[0]? = some (some (.ref q)) → Evl.Ex H H1 → EvR (fun H v => MadeAt C t H v 7) (tMkVK (C 7) (sp_init1 K (C 7) "text") kwG (tCons (tOp (rIxL K) (tVar 0) (tC (.int 8))) tNil)) σ H1 := fun {H1 σ} h0 e => evr_mkK1 (at_ 8 (by decide) h0 e)
    have m8 : ∀ {H1 : Hp} {σ : L2.St}, σ[0]? = some (some (.ref q)) → Evl.Ex H H1 → EvR (fun H v => MadeAt C t H v 8) (tMkVK (C 8) (sp_init1 K (C 8) "price") kwG (tCons (tOp (rIxL K) (tVar 0) (tC (.int 9))) tNil)) σ H1 := fun {H1 σ} h0 e => evr_mkK1 (at_ 9 (by decide) h0 e)
    have m9 : ∀ {H1 : Hp} {σ : L2.St}, σ[0]? = some (some (.ref q)) → Evl.Ex H H1 → EvR (fun H v => MadeAt C t H v 9) (tMkVK (C 9) (sp_init1 K (C 9) "value") kwG (tCons (tOp (rIxL K) (tVar 0) (tC (.int 10))) tNil)) σ H1 := fun {H1 σ} h0 e => evr_mkK1 (at_ 10 (by decide) h0 e)
    have m10 : ∀ {H1 : Hp} {σ : L2.St}, σ[0]? = some (some (.ref q)) → Evl.Ex H H1 → EvR (fun H v => MadeAt C t H v 10) (tMkVK (C 10) (sp_init1 K (C 10) "value") kwG (tCons (tOp (rIxL K) (tVar 0) (tC (.int 11))) tNil)) σ H1 := fun {H1 σ} h0 e => evr_mkK1 (at_ 11 (by decide) h0 e)
    have m11 : ∀ {H1 : Hp} {σ : L2.St}, σ[0]? = some (some (.ref q)) → Evl.Ex H H1 → EvR (fun H v => MadeAt C t H v 11) (tMkVK (C 11) (sp_init1 K (C 11) "names") kwG (tCons (tOp (rIxL K) (tVar 0) (tC (.int 12))) tNil)) σ H1 := fun {H1 σ} h0 e => evr_mkK1 (at_ 12 (by decide) h0 e)
    have m12 : ∀ {H1 : Hp} {σ : L2.St}, σ[0]? = some (some (.ref q)) → Evl.Ex H H1 → EvR (fun H v => MadeAt C t H v 12) (tMkVK (C 12) (sp_init1 K (C 12) "value") kwG (tCons (tOp (rIxL K) (tVar 0) (tC (.int 13))) tNil)) σ H1 := fun {H1 σ} h0 e => evr_mkK1 (at_ 13 (by decide) h0 e)
    have m13 : ∀ {H1 : Hp} {σ : L2.St}, σ[0]? = some (some (.ref q)) → Evl.Ex H H1 → EvR (fun H v => MadeAt C t H v 13) (tMkVK (C 13) (sp_init1 K (C 13) "name") kwG (tCons (tOp (rIxL K) (tVar 0) (tC (.int 14))) tNil)) σ H1 := fun {H1 σ} h0 e => evr_mkK1 (at_ 14 (by decide) h0 e)
    have m14 : ∀ {H1 : Hp} {σ : L2.St}, σ[0]? = some (some (.ref q)) → Evl.Ex H H1 → EvR (fun H v => MadeAt C t H v 14) (tMkVK (C 14) (sp_init1 K (C 14) "value") kwG (tCons (tOp (rIxL K) (tVar 0) (tC (.int 15))) tNil)) σ H1 := fun {H1 σ} h0 e => evr_mkK1 (at_ 15 (by decide) h0 e)
    have m15 : ∀ {H1 : Hp} {σ : L2.St}, σ[0]? = some (some (.ref q)) → Evl.Ex H H1 → EvR (fun H v => MadeAt C t H v 15) (tMkVK (C 15) (sp_init1 K (C 15) "steps") kwG (tCons (tOp (rIxL K) (tVar 0) (tC (.int 16))) tNil)) σ H1 := fun {H1 σ} h0 e => evr_mkK1 (at_ 16 (by decide) h0 e)
    have m16 : ∀ {H1 : Hp} {σ : L2.St}, σ[0]? = some (some (.ref q)) → Evl.Ex H H1 → EvR (fun H v => MadeAt C t H v 16) (tMkVK (C 16) (sp_init1 K (C 16) "sharing") kwG (tCons (tOp (rIxL K) (tVar 0) (tC (.int 17))) tNil)) σ H1 := fun {H1 σ} h0 e => evr_mkK1 (at_ 17 (by decide) h0 e)
    have m17 : ∀ {H1 : Hp} {σ : L2.St}, σ[0]? = some (some (.ref q)) → Evl.Ex H H1 → EvR (fun H v => MadeAt C t H v 17) (tMkVK (C 17) (sp_init1 K (C 17) "bound") kwG (tCons (tOp (rIxL K) (tVar 0) (tC (.int 18))) tNil)) σ H1 := fun {H1 σ} h0 e => evr_mkK1 (at_ 18 (by decide) h0 e)
    have m18 : ∀ {H1 : Hp} {σ : L2.St}, σ[0]? = some (some (.ref q)) → Evl.Ex H H1 → EvR (fun H v => MadeAt C t H v 18) (fun _ H Q => ∀ a, H a = none → Q (.ref a) (upd H a (exo a (C 18) none))) σ H1 := fun {H1 σ} h0 e => evr_mk0
    have m19 : ∀ {H1 : Hp} {σ : L2.St}, σ[0]? = some (some (.ref q)) → Evl.Ex H H1 → EvR (fun H v => MadeAt C t H v 19) (fun _ H Q => ∀ a, H a = none → Q (.ref a) (upd H a (exo a (C 19) none))) σ H1 := fun {H1 σ} h0 e => evr_mk0
    dsimp only [gName]
    refine q_asgR (R := MadeAt C t) (bs := [0, 1, 2, 3]) (elr_lst (R := MadeAt C t) (bs := [0, 1, 2, 3]) MadeAt.ex (ear_cons (R := MadeAt C t) MadeAt.ex (m0 rfl (Evl.Ex.refl _)) (ear_cons (R := MadeAt C t) MadeAt.ex (m1 rfl (Evl.Ex.refl _)) (ear_cons (R := MadeAt C t) MadeAt.ex (m2 rfl (Evl.Ex.refl _)) (ear_cons (R := MadeAt C t) MadeAt.ex (m3 rfl (Evl.Ex.refl _)) ear_nil)))) (by decide)) fun p1 x1 H1 np1 e1 hp1 r1 => ?_
    refine q_asgR (R := MadeAt C t) (bs := [0, 1, 2, 3] ++ [4, 5, 6, 7]) (elr_catV (R := MadeAt C t) (bs := [0, 1, 2, 3]) (cs := [4, 5, 6, 7]) MadeAt.ex rfl hp1 r1 (elr_lst (R := MadeAt C t) (bs := [4, 5, 6, 7]) MadeAt.ex (ear_cons (R := MadeAt C t) MadeAt.ex (m4 rfl e1) (ear_cons (R := MadeAt C t) MadeAt.ex (m5 rfl e1) (ear_cons (R := MadeAt C t) MadeAt.ex (m6 rfl e1) (ear_cons (R := MadeAt C t) MadeAt.ex (m7 rfl e1) ear_nil)))) (by decide)) (by decide)) fun p2 x2 H2 np2 e2 hp2 r2 => ?_
    refine q_asgR (R := MadeAt C t) (bs := [0, 1, 2, 3, 4, 5, 6, 7] ++ [8, 9, 10, 11]) (elr_catV (R := MadeAt C t) (bs := [0, 1, 2, 3, 4, 5, 6, 7]) (cs := [8, 9, 10, 11]) MadeAt.ex rfl hp2 r2 (elr_lst (R := MadeAt C t) (bs := [8, 9, 10, 11]) MadeAt.ex (ear_cons (R := MadeAt C t) MadeAt.ex (m8 rfl (e1.trans e2)) (ear_cons (R := MadeAt C t) MadeAt.ex (m9 rfl (e1.trans e2)) (ear_cons (R := MadeAt C t) MadeAt.ex (m10 rfl (e1.trans e2)) (ear_cons (R := MadeAt C t) MadeAt.ex (m11 rfl (e1.trans e2)) ear_nil)))) (by decide)) (by decide)) fun p3 x3 H3 np3 e3 hp3 r3 => ?_
    refine q_asgR (R := MadeAt C t) (bs := [0, 1, 2, 3, 4, 5, 6, 7, 8, 9, 10, 11] ++ [12, 13, 14, 15]) (elr_catV (R := MadeAt C t) (bs := [0, 1, 2, 3, 4, 5, 6, 7, 8, 9, 10, 11]) (cs := [12, 13, 14, 15]) MadeAt.ex rfl hp3 r3 (elr_lst (R := MadeAt C t) (bs := [12, 13, 14, 15]) MadeAt.ex (ear_cons (R := MadeAt C t) MadeAt.ex (m12 rfl ((e1.trans e2).trans e3)) (ear_cons (R := MadeAt C t) MadeAt.ex (m13 rfl ((e1.trans e2).trans e3)) (ear_cons (R := MadeAt C t) MadeAt.ex (m14 rfl ((e1.trans e2).trans e3)) (ear_cons (R := MadeAt C t) MadeAt.ex (m15 rfl ((e1.trans e2).trans e3)) ear_nil)))) (by decide)) (by decide)) fun p4 x4 H4 np4 e4 hp4 r4 => ?_
    exact s_retR (R := MadeAt C t) (bs := [0, 1, 2, 3, 4, 5, 6, 7, 8, 9, 10, 11, 12, 13, 14, 15] ++ [16, 17, 18, 19]) (elr_catV (R := MadeAt C t) (bs := [0, 1, 2, 3, 4, 5, 6, 7, 8, 9, 10, 11, 12, 13, 14, 15]) (cs := [16, 17, 18, 19]) MadeAt.ex rfl hp4 r4 (elr_lst (R := MadeAt C t) (bs := [16, 17, 18, 19]) MadeAt.ex (ear_cons (R := MadeAt C t) MadeAt.ex (m16 rfl (((e1.trans e2).trans e3).trans e4)) (ear_cons (R := MadeAt C t) MadeAt.ex (m17 rfl (((e1.trans e2).trans e3).trans e4)) (ear_cons (R := MadeAt C t) MadeAt.ex (m18 rfl (((e1.trans e2).trans e3).trans e4)) (ear_cons (R := MadeAt C t) MadeAt.ex (m19 rfl (((e1.trans e2).trans e3).trans e4)) ear_nil)))) (by decide)) (by decide)) fun p xs H9 np e9 hp r => hQ p xs H9 ((((e1.trans e2).trans e3).trans e4).trans e9) (Evl.fresh_back (((e1.trans e2).trans e3).trans e4) np) hp r
end
end Lw

namespace Lw
open PySem PySem.Spec PyProof.Rows L2
def L20 : List Nat := [0, 1, 2, 3, 4, 5, 6, 7, 8, 9, 10, 11, 12, 13, 14, 15, 16, 17, 18, 19]
theorem l20_at : ∀ i, i < 20 → L20[i]? = some i := by decide
def sp_keeps (C : Nat → Addr) : Sp := fun vs H Q _ => ∃ (m q : Addr) (xs t : List V), vs = [.ref m, .ref q] ∧ H m = some (.lst xs) ∧ Rels (MadeAt C t) H xs L20 ∧ H q = some (.lst t) ∧ t.length = 19 ∧ (∀ x ∈ t, DSame x x H) ∧ ∀ H2, Evl.Ex H H2 → Q (.bl true) H2
theorem t_whole {t : List V} (h : t.length = 19) : [t.getD 0 .non, t.getD 1 .non, t.getD 2 .non, t.getD 3 .non, t.getD 4 .non, t.getD 5 .non, t.getD 6 .non, t.getD 7 .non, t.getD 8 .non, t.getD 9 .non, t.getD 10 .non, t.getD 11 .non, t.getD 12 .non, t.getD 13 .non, t.getD 14 .non, t.getD 15 .non, t.getD 16 .non, t.getD 17 .non, t.getD 18 .non] = t := by
  apply List.ext_getElem
  · rw [h]; rfl
  · intro i h1 h2
    have hi : i < 19 := by rw [h] at h2; exact h2
    have e : t[i] = t.getD i .non := by rw [List.getD_eq_getElem?_getD, List.getElem?_eq_getElem h2]; rfl
    rw [e]
    match i, hi with
    | 0, _ => rfl
    | 1, _ => rfl
    | 2, _ => rfl
    | 3, _ => rfl
    | 4, _ => rfl
    | 5, _ => rfl
    | 6, _ => rfl
    | 7, _ => rfl
    | 8, _ => rfl
    | 9, _ => rfl
    | 10, _ => rfl
    | 11, _ => rfl
    | 12, _ => rfl
    | 13, _ => rfl
    | 14, _ => rfl
    | 15, _ => rfl
    | 16, _ => rfl
    | 17, _ => rfl
    | 18, _ => rfl
    | n + 19, h => exact absurd h (by omega)
abbrev s_law_keeps : Stmt := topS 30
abbrev n_law_keeps : List Str := ["_law_made", "_law_t", "_law_k", "_law_j", "_law_told"]
theorem sc_law_keeps : FnScope n_law_keeps ["_law_made", "_law_t"] (defScope s_law_keeps) := ⟨rfl, rfl, rfl, by decide +kernel, rfl, by decide +kernel, by decide +kernel⟩
section
variable {P : Program} {w : World} {K : PySem.W.Frag} {mg : Str → Option Value} {base : Heap}
theorem ok_keeps {f fK CE : Addr} {fd fdK : FuncData} {C : Nat → Addr} (F : Fun K "_law_keeps" "_law_keeps" s_law_keeps f fd) (N : Kin K C CE) (g_BundleError : mg "BundleError" = some (.ref CE))
    (X0 : XfC K (C 0)) (X1 : XfC K (C 1)) (X2 : XfC K (C 2)) (X3 : XfC K (C 3)) (X4 : XfC K (C 4)) (X5 : XfC K (C 5)) (X6 : XfC K (C 6)) (X7 : XfC K (C 7)) (X8 : XfC K (C 8)) (X9 : XfC K (C 9)) (X10 : XfC K (C 10)) (X11 : XfC K (C 11)) (X12 : XfC K (C 12)) (X13 : XfC K (C 13)) (X14 : XfC K (C 14)) (X15 : XfC K (C 15)) (X16 : XfC K (C 16)) (X17 : XfC K (C 17))
    (no0 : PySem.W.findIn K (.ref (C 0)) "name" = some none) (no1 : PySem.W.findIn K (.ref (C 1)) "name" = some none) (no2 : PySem.W.findIn K (.ref (C 2)) "name" = some none) (no3 : PySem.W.findIn K (.ref (C 3)) "count" = some none) (no4 : PySem.W.findIn K (.ref (C 4)) "value" = some none) (no5 : PySem.W.findIn K (.ref (C 5)) "worth" = some none) (no7 : PySem.W.findIn K (.ref (C 7)) "text" = some none) (no8 : PySem.W.findIn K (.ref (C 8)) "price" = some none) (no9 : PySem.W.findIn K (.ref (C 9)) "value" = some none) (no10 : PySem.W.findIn K (.ref (C 10)) "value" = some none) (no11 : PySem.W.findIn K (.ref (C 11)) "names" = some none) (no12 : PySem.W.findIn K (.ref (C 12)) "value" = some none) (no13 : PySem.W.findIn K (.ref (C 13)) "name" = some none) (no14 : PySem.W.findIn K (.ref (C 14)) "value" = some none) (no15 : PySem.W.findIn K (.ref (C 15)) "steps" = some none) (no16 : PySem.W.findIn K (.ref (C 16)) "sharing" = some none) (no17 : PySem.W.findIn K (.ref (C 17)) "bound" = some none) (no6a : PySem.W.findIn K (.ref (C 6)) "value" = some none) (no6b : PySem.W.findIn K (.ref (C 6)) "name" = some none)
    (F_law_kinds : Fun K "_law_kinds" "_law_kinds" s_law_kinds fK fdK) (b_law_kinds : Binds K fdK ["_law_e"] []) (g_law_kinds : mg "_law_kinds" = some (.ref fK)) (G_law_kinds : FnOk P w K mg base CX0 1 fK fdK ["_law_e"] (sp_kinds C))
    (m_isinstance : mg "isinstance" = none) (m_range : mg "range" = none) (m_ValueError : mg "ValueError" = none) : FnOk P w K mg base CX0 3 f fd ["_law_made", "_law_t"] (sp_keeps C) := by
  refine F.ok sc_law_keeps (fun vs H Q E h => ?_) (fun cdv A outer s H vs Q E hr h => ?_)
  · obtain ⟨m, q, xs, t, rfl, _⟩ := h
    rfl
  · obtain ⟨m, q, xs, t, rfl, hm, hx, hq, hl, hs, hQ⟩ := h
    refine ⟨_, (pss_cons (ps_for PassesOwn.never rfl  (pi_range1 (by rfl) m_range (pa_cons pe_int pa_nil)) (pg_name (i := 2) sc_law_keeps.nd rfl (by first | exact .inl rfl | exact .inr rfl))
   (pss_cons (ps_if (PW.pt (pw_or (pt_not (pt_val (pe_callB call_isW (by rfl) m_isinstance (by decide +kernel) (pa_cons (pe_ix ix_list (pv 0) (pv 2) (fun _ _ => rfl)) (pa_cons (pe_cls (by rfl) g_BundleError) pa_nil))))) (pw_or1 (pt_not (pt_val (pe_callB call_isW (by rfl) m_isinstance (by decide +kernel) (pa_cons (pe_ix ix_list (pv 0) (pv 2) (fun _ _ => rfl)) (pa_cons (pe_bltn (v := .ty "ValueError") (by rfl) m_ValueError (by decide +kernel) rfl) pa_nil))))))))
   (pss_one (ps_ret pe_bl))
   pss_nil)
  (pss_one (ps_if (pt_cmpR (op_neD hr.units) (pe_call G_law_kinds (hr.mono (by decide)) (by rfl) g_law_kinds F_law_kinds.kp b_law_kinds .nil pass0 (pa_cons (pe_ix ix_list (pv 0) (pv 2) (fun _ _ => rfl)) pa_nil)) (pe_lc (own := [("_law_j", 3)]) (g := gName 3) (by rfl) sc_law_keeps.nd (pi_range1 (by rfl) m_range (pa_cons pe_int pa_nil)) (blkOk_by (own := [("_law_j", 3)]) (N := n_law_keeps) (sc := defScope s_law_keeps) (by decide +kernel)) (fun _ _ _ _ _ => pg_name (i := 3) sc_law_keeps.nd rfl (by first | exact .inl rfl | exact .inr rfl)) (fun _ _ _ _ _ => pts_nil) (fun _ _ _ _ _ => (pe_cmpR op_eq (pv 3) (pv 2) (nomark _)))) (nomark _))
   (pss_one (ps_ret pe_bl))
   pss_nil))))
  (pss_cons (ps_set (i := 4) sc_law_keeps.nd rfl (by first | exact .inl rfl | exact .inr rfl) (pe_lst (pa_cons (pe_xv X0 no0 (pe_ix ix_list (pv 0) pe_int (fun _ _ => rfl))) (pa_cons (pe_xv X1 no1 (pe_ix ix_list (pv 0) pe_int (fun _ _ => rfl))) (pa_cons (pe_xv X2 no2 (pe_ix ix_list (pv 0) pe_int (fun _ _ => rfl))) (pa_cons (pe_xv X3 no3 (pe_ix ix_list (pv 0) pe_int (fun _ _ => rfl))) (pa_cons (pe_xv X4 no4 (pe_ix ix_list (pv 0) pe_int (fun _ _ => rfl))) (pa_cons (pe_xv X5 no5 (pe_ix ix_list (pv 0) pe_int (fun _ _ => rfl))) pa_nil))))))))
  (pss_cons (ps_set (i := 4) sc_law_keeps.nd rfl (by first | exact .inl rfl | exact .inr rfl) (pe_op op_cat (pv 4) (pe_lst (pa_cons (pe_xv X6 no6a (pe_ix ix_list (pv 0) pe_int (fun _ _ => rfl))) (pa_cons (pe_xv X6 no6b (pe_ix ix_list (pv 0) pe_int (fun _ _ => rfl))) (pa_cons (pe_xv X7 no7 (pe_ix ix_list (pv 0) pe_int (fun _ _ => rfl))) (pa_cons (pe_xv X8 no8 (pe_ix ix_list (pv 0) pe_int (fun _ _ => rfl))) (pa_cons (pe_xv X9 no9 (pe_ix ix_list (pv 0) pe_int (fun _ _ => rfl))) (pa_cons (pe_xv X10 no10 (pe_ix ix_list (pv 0) pe_int (fun _ _ => rfl))) pa_nil)))))))))
  (pss_cons (ps_set (i := 4) sc_law_keeps.nd rfl (by first | exact .inl rfl | exact .inr rfl) (pe_op op_cat (pv 4) (pe_lst (pa_cons (pe_xv X11 no11 (pe_ix ix_list (pv 0) pe_int (fun _ _ => rfl))) (pa_cons (pe_xv X12 no12 (pe_ix ix_list (pv 0) pe_int (fun _ _ => rfl))) (pa_cons (pe_xv X13 no13 (pe_ix ix_list (pv 0) pe_int (fun _ _ => rfl))) (pa_cons (pe_xv X14 no14 (pe_ix ix_list (pv 0) pe_int (fun _ _ => rfl))) (pa_cons (pe_xv X15 no15 (pe_ix ix_list (pv 0) pe_int (fun _ _ => rfl))) pa_nil))))))))
  (pss_one (ps_ret (pe_cmpR (op_eqSame (k := 0) (hr.mono (by decide))) (pe_op op_cat (pv 4) (pe_lst (pa_cons (pe_xv X16 no16 (pe_ix ix_list (pv 0) pe_int (fun _ _ => rfl))) (pa_cons (pe_xv X17 no17 (pe_ix ix_list (pv 0) pe_int (fun _ _ => rfl))) pa_nil)))) (pv 1) (nomark _)))))))), ?_⟩
    have xl : xs.length = 20 := hx.len
    have at_ : ∀ i, i < 20 → ∃ a, xs[i]? = some (.ref a) ∧ ErAt (C i) (fsA t i) H (.ref a) := fun i hi => by
      have h1 : xs[i]? = some xs[i] := List.getElem?_eq_getElem (by omega)
      obtain ⟨b, hb, r⟩ := hx.at h1
      rw [l20_at i hi] at hb
      cases hb
      obtain ⟨a, d, h2, _⟩ := id r
      exact ⟨a, by rw [h1, h2], by rw [← h2]; exact r⟩
    dsimp only [gName]
    refine Evl.q_forR1 (n := 20) (Evl.ea_cons Evl.ev_c Evl.ea_nil) (by omega) (fun i σ' H' => ∃ o2, σ' = [some (.ref m), some (.ref q), o2, none, none] ∧ Evl.Ex H H') (fun H1 e1 => ⟨_, rfl, e1⟩) (fun i σ' H' hi ⟨o2, es, e⟩ => ?_) (fun σ' H' ⟨o2, es, e⟩ => ?_)
    · subst es
      have hi' : i < 20 := by omega
      obtain ⟨a, ha, ra⟩ := at_ i hi'
      have el : ∀ {H1 : Hp} {σ : L2.St}, σ[0]? = some (some (.ref m)) → σ[2]? = some (some (.int (i : Int))) → Evl.Ex H H1 → Evl.Ev (tOp (rIxL K) (tVar 0) (tVar 2)) σ H1 (.ref a) := fun {H1 σ} h0 h2 e1 =>
        Evl.ev_op (Evl.ev_var h0) (Evl.ev_var h2) (Evl.rv_ixL (Evl.sq_of (e1 _ _ hm)) (atI_nat ha))
      refine Evl.q_when (b := !true || !true) (Evl.et_or (Evl.et_not (Evl.et_B (Evl.ev_cb (Evl.ea_cons (el rfl rfl e) (Evl.ea_cons Evl.ev_c Evl.ea_nil)) (rc_isW (N.I i hi') (ra.ex e) (.own CE) (N.be i hi'))))) fun _ =>
        Evl.et_not (Evl.et_B (Evl.ev_cb (Evl.ea_cons (el rfl rfl e) (Evl.ea_cons Evl.ev_c Evl.ea_nil)) (rc_isW (N.I i hi') (ra.ex e) (.ty "ValueError") (N.ve i hi'))))) (fun hb => nomatch hb) (fun _ H1 e1 => ?_)
      have gd : ∀ (js : List Nat), SeqAt.shaped (.list (js.map fun j => PyData.bool (decide (j = i)))) = true := fun js => (good_list (n := 0) fun d hd => by
        obtain ⟨j, _, rfl⟩ := List.mem_map.mp hd
        exact good_bool _).shaped (by decide)
      refine Evl.s_when (b := !true) (Evl.et_test (Evl.ev_opLL (xs := kindsV i (List.range 20)) (ys := (List.range 20).map fun j : Nat => .bl (decide (V.int (j : Int) = V.int (i : Int)))) (Evl.el_call (Evl.ea_cons (el rfl rfl (e.trans e1)) Evl.ea_nil) fun H2 e2 Q q E => ?_) ?_ fun p r H2 hp hr e2 => ?_)) (fun hb => nomatch hb) (fun _ H2 e2 => ⟨_, rfl, (e.trans e1).trans e2⟩)
      · exact ⟨a, i, _, rfl, hi', ra.ex ((e.trans e1).trans e2), fun p H3 e3 np hp => q p H3 np e3 hp⟩
      · exact Evl.el_lcR1 (n := 20) (fun _ => true) (fun j => .bl (decide (V.int (j : Int) = V.int (i : Int)))) (Evl.ea_cons Evl.ev_c Evl.ea_nil) (by omega) (fun x => rfl) (fun j H2 e2 hj => et_yes) (fun j H2 e2 hj _ => Evl.ev_op (Evl.ev_var rfl) (Evl.ev_var rfl) (Evl.rv_eq rfl))
      · have e3 : ((List.range 20).map fun j : Nat => V.bl (decide (V.int (j : Int) = V.int (i : Int)))) = kindsV i (List.range 20) := List.map_congr_left fun j _ => by
          congr 1
          exact decide_eq_decide.mpr ⟨fun z => by injection z with z; omega, fun z => by rw [z]⟩
        rw [e3] at hr
        have dp : ∀ {p : Addr} {H3 : Hp}, H3 p = some (.lst (kindsV i (List.range 20))) → Dp K H3 (.ref p) (.list ((List.range 20).map fun j => PyData.bool (decide (j = i)))) := fun {p H3} h => .lst (Evl.sq_of h) (dp_map fun x _ => .bl _)
        refine fun H3 e3 Q q => (rv_neD (fun H4 e4 => dp (e4 _ _ hp)) (fun H4 e4 => dp (e4 _ _ hr)) (gd _) (gd _)) H3 e3 Q fun H4 e4 => ?_
        rw [PySem.SeqAt.eqv_refl _ ((good_list (n := 0) fun d hd => by
          obtain ⟨j, _, rfl⟩ := List.mem_map.mp hd
          exact good_bool _).1)]
        exact q H4 e4
    · subst es
      have fl : ∀ {H1 : Hp} {σ : L2.St} (k p : Nat) (g : Str), k < 20 → σ[0]? = some (some (.ref m)) → (fsA t k).lookup g = some (t.getD p .non) → Evl.Ex H H1 → Evl.Ev (tXv (C k) g (tOp (rIxL K) (tVar 0) (tC (.int (k : Int))))) σ H1 (t.getD p .non) := fun {H1 σ} k p g hk h0 lk e1 => by
        obtain ⟨a, ha, ra⟩ := at_ k hk
        exact ev_xv (Evl.ev_op (Evl.ev_var h0) Evl.ev_c (Evl.rv_ixL (Evl.sq_of (e1 _ _ hm)) (atI_nat ha))) (ra.ex e1) lk
      refine Evl.q_asgL (xs := [t.getD 0 .non, t.getD 1 .non, t.getD 2 .non, t.getD 3 .non, t.getD 4 .non, t.getD 5 .non]) (Evl.el_lst (Evl.ea_cons (fl 0 0 "name" (by decide) rfl rfl e) (Evl.ea_cons (fl 1 1 "name" (by decide) rfl rfl e) (Evl.ea_cons (fl 2 2 "name" (by decide) rfl rfl e) (Evl.ea_cons (fl 3 3 "count" (by decide) rfl rfl e) (Evl.ea_cons (fl 4 4 "value" (by decide) rfl rfl e) (Evl.ea_cons (fl 5 5 "worth" (by decide) rfl rfl e) Evl.ea_nil)))))) (by show 6 ≤ 100000; decide)) fun p1 H1 np1 e1 hp1 => ?_
      refine Evl.q_asgL (xs := [t.getD 0 .non, t.getD 1 .non, t.getD 2 .non, t.getD 3 .non, t.getD 4 .non, t.getD 5 .non] ++ [t.getD 6 .non, t.getD 7 .non, t.getD 8 .non, t.getD 9 .non, t.getD 10 .non, t.getD 11 .non]) (el_catV rfl hp1 (Evl.el_lst (Evl.ea_cons (fl 6 6 "value" (by decide) rfl rfl (e.trans e1)) (Evl.ea_cons (fl 6 7 "name" (by decide) rfl rfl (e.trans e1)) (Evl.ea_cons (fl 7 8 "text" (by decide) rfl rfl (e.trans e1)) (Evl.ea_cons (fl 8 9 "price" (by decide) rfl rfl (e.trans e1)) (Evl.ea_cons (fl 9 10 "value" (by decide) rfl rfl (e.trans e1)) (Evl.ea_cons (fl 10 11 "value" (by decide) rfl rfl (e.trans e1)) Evl.ea_nil)))))) (by show 6 ≤ 100000; decide)) (by show 12 ≤ 100000; decide)) fun p2 H2 np2 e2 hp2 => ?_
      refine Evl.q_asgL (xs := [t.getD 0 .non, t.getD 1 .non, t.getD 2 .non, t.getD 3 .non, t.getD 4 .non, t.getD 5 .non] ++ [t.getD 6 .non, t.getD 7 .non, t.getD 8 .non, t.getD 9 .non, t.getD 10 .non, t.getD 11 .non] ++ [t.getD 12 .non, t.getD 13 .non, t.getD 14 .non, t.getD 15 .non, t.getD 16 .non]) (el_catV rfl hp2 (Evl.el_lst (Evl.ea_cons (fl 11 12 "names" (by decide) rfl rfl ((e.trans e1).trans e2)) (Evl.ea_cons (fl 12 13 "value" (by decide) rfl rfl ((e.trans e1).trans e2)) (Evl.ea_cons (fl 13 14 "name" (by decide) rfl rfl ((e.trans e1).trans e2)) (Evl.ea_cons (fl 14 15 "value" (by decide) rfl rfl ((e.trans e1).trans e2)) (Evl.ea_cons (fl 15 16 "steps" (by decide) rfl rfl ((e.trans e1).trans e2)) Evl.ea_nil))))) (by show 5 ≤ 100000; decide)) (by show 17 ≤ 100000; decide)) fun p3 H3 np3 e3 hp3 => ?_
      have e03 := ((e.trans e1).trans e2).trans e3
      refine Evl.s_ret (v := .bl true) (Evl.ev_opL1 (xs := [t.getD 0 .non, t.getD 1 .non, t.getD 2 .non, t.getD 3 .non, t.getD 4 .non, t.getD 5 .non] ++ [t.getD 6 .non, t.getD 7 .non, t.getD 8 .non, t.getD 9 .non, t.getD 10 .non, t.getD 11 .non] ++ [t.getD 12 .non, t.getD 13 .non, t.getD 14 .non, t.getD 15 .non, t.getD 16 .non] ++ [t.getD 17 .non, t.getD 18 .non]) (y := .ref q) (el_catV rfl hp3 (Evl.el_lst (Evl.ea_cons (fl 16 17 "sharing" (by decide) rfl rfl e03) (Evl.ea_cons (fl 17 18 "bound" (by decide) rfl rfl e03) Evl.ea_nil)) (by show 2 ≤ 100000; decide)) (by show 19 ≤ 100000; decide)) (fun H4 e4 => Evl.ev_var rfl) fun p H4 hp e4 => ?_) fun H4 e4 => hQ H4 (e03.trans e4)
      intro H5 e5 Q qq
      refine ⟨⟨p, q, t, t, rfl, rfl, ?_, e5 _ _ (e4 _ _ (e03 _ _ hq)), rfl, fun i x y h1 h2 => ?_⟩, fun H6 e6 => qq H6 e6⟩
      · rw [e5 _ _ hp]
        exact congrArg (fun l => some (HO.lst l)) (t_whole hl)
      · rw [h1] at h2
        cases h2
        exact hs x (List.mem_of_getElem? h1)
end
end Lw

namespace Lw
open PySem PySem.Spec PyProof.Rows L2
theorem same_flat {v : V} {H : Hp} (h : flatV v = true) : DSame v v H := .inl ⟨h, h, by cases v <;> simp_all [flatV, eqV]⟩
abbrev s_law_thing : Stmt := topS 27
abbrev n_law_thing : List Str := ["_law_state", "_law_amount", "_law_signs_here", "_law_word", "_law_k"]
theorem sc_law_thing : FnScope n_law_thing ["_law_state"] (defScope s_law_thing) := ⟨rfl, rfl, rfl, by decide +kernel, rfl, by decide +kernel, by decide +kernel⟩
section
variable {P : Program} {w : World} {K : PySem.W.Frag} {mg : Str → Option Value} {base : Heap}
def sp_thing : Sp := fun vs H Q _ => ∃ (st : Addr) (n : Nat), vs = [.ref st] ∧ DS H st n ∧ n ≤ 100000 ∧ ∀ v H', DS H' st (n + 10) → Kp st H H' → DSame v v H' → Q v H'
theorem ok_thing {f f1 f2 : Addr} {fd fd1 fd2 : FuncData} (F : Fun K "_law_thing" "_law_thing" s_law_thing f fd)
    (F_law_draw : Fun K "_law_draw" "_law_draw" s_law_draw f1 fd1) (b_law_draw : Binds K fd1 ["_law_state", "_law_size"] []) (g_law_draw : mg "_law_draw" = some (.ref f1)) (G_law_draw : FnOk P w K mg base CX0 1 f1 fd1 ["_law_state", "_law_size"] sp_draw)
    (F_law_signs : Fun K "_law_signs" "_law_signs" s_law_signs f2 fd2) (b_law_signs : Binds K fd2 [] []) (g_law_signs : mg "_law_signs" = some (.ref f2)) (G_law_signs : FnOk P w K mg base CX0 1 f2 fd2 [] sp_signs)
    (m_len : mg "len" = none) (m_range : mg "range" = none) : FnOk P w K mg base CX0 2 f fd ["_law_state"] sp_thing := by
  refine F.ok sc_law_thing (fun vs H Q E h => ?_) (fun cdv A outer s H vs Q E hr h => ?_)
  · obtain ⟨st, n, rfl, _⟩ := h
    rfl
  · obtain ⟨st, n, rfl, D, hn, hQ⟩ := h
    refine ⟨_, (pss_cons (ps_set (i := 1) sc_law_thing.nd rfl (by first | exact .inl rfl | exact .inr rfl) (pe_op op_sub (pe_call G_law_draw (hr.mono (by decide)) (by rfl) g_law_draw F_law_draw.kp b_law_draw .nil pass0 (pa_cons (pv 0) (pa_cons pe_int pa_nil))) pe_int))
  (pss_cons (ps_set (i := 2) sc_law_thing.nd rfl (by first | exact .inl rfl | exact .inr rfl) (pe_call0 G_law_signs (hr.mono (by decide)) (by rfl) g_law_signs F_law_signs.kp b_law_signs .nil pass0))
  (Evl.pss_cut (ps_set (i := 3) sc_law_thing.nd rfl (by first | exact .inl rfl | exact .inr rfl) (pe_join pe_str (pe_lc (own := [("_law_k", 4)]) (g := gName 4) (by rfl) sc_law_thing.nd (pi_range1 (by rfl) m_range (pa_cons (pe_call G_law_draw (hr.mono (by decide)) (by rfl) g_law_draw F_law_draw.kp b_law_draw .nil pass0 (pa_cons (pv 0) (pa_cons pe_int pa_nil))) pa_nil)) (blkOk_by (own := [("_law_k", 4)]) (N := n_law_thing) (sc := defScope s_law_thing) (by decide +kernel)) (fun _ _ _ _ _ => pg_name (i := 4) sc_law_thing.nd rfl (by first | exact .inl rfl | exact .inr rfl)) (fun _ _ _ _ _ => pts_nil) (fun _ _ _ _ _ => (pe_ix ix_str (pv 2) (pe_call G_law_draw (hr.mono (by decide)) (by rfl) g_law_draw F_law_draw.kp b_law_draw .nil pass0 (pa_cons (pv 0) (pa_cons (pe_callB call_len_str (by rfl) m_len PySem.boot_len (pa_cons (pv 2) pa_nil)) pa_nil))) (fun _ _ => rfl))))))
  (pss_one (ps_ret (pe_ix ix_list (pe_lst (pa_cons (pv 3) (pa_cons (pv 1) (pa_cons pe_non (pa_cons (pe_tup (pa_cons (pv 3) (pa_cons (pv 1) pa_nil))) (pa_cons (pe_op op_sub (pe_un un_neg (pe_op op_pow pe_int pe_int)) (pv 1)) (pa_cons pe_str (pa_cons pe_int (pa_cons pe_bl (pa_cons (pe_disp (pps_cons (pv 3) pe_int pps_nil) rfl rfl (by intro h; cases h) (by decide)) pa_nil)))))))))) (pe_call G_law_draw (hr.mono (by decide)) (by rfl) g_law_draw F_law_draw.kp b_law_draw .nil pass0 (pa_cons (pv 0) (pa_cons pe_int pa_nil))) (fun _ _ => rfl))))))), ?_⟩
    refine ⟨.ref st, rfl, st, 2000001, n, rfl, D, by omega, by omega, by omega, fun d H2 d0 d1 D2 k2 => ⟨d, 1000000, rfl, rfl, ?_⟩⟩
    refine ⟨rfl, fun z zl zo => ?_⟩
    have zs : z.length ≤ sizeLine := Nat.le_trans (by omega : z.length ≤ 1000) (by decide)
    refine ⟨fun σ' H' => ∃ y : Str, σ' = [some (.ref st), some (.int (d - 1000000)), some (.str z), some (.str y), none] ∧ DS H' st (n + 8) ∧ Kp st H H', ?_, ?_⟩
    · refine ⟨⟨_, rfl⟩, .ref st, rfl, st, 6, n + 1, rfl, D2, by omega, by omega, by omega, fun c H3 c0 c1 D3 k3 => ⟨c, rfl, by omega, by omega, fun Dl nD => ?_⟩⟩
      refine lc_range (lo := 0) (n := c.toNat) (fun i H' => ∃ zs : List Str, DS H' st (n + 2 + i) ∧ Kp st H3 H' ∧ Ap H' st Dl (.lst (zs.map V.str)) ∧ zs.length = i ∧ ∀ z ∈ zs, Sg z) ⟨[], D3.new nD, D3.newK nD, D3.fresh nD, rfl, fun _ h => by simp at h⟩ (fun i H' hi ⟨zl', D4, k4, ap, hl, hz⟩ => ?_) (fun H' ⟨zl', D4, k4, ap, hl, hz⟩ => ?_)
      · refine ⟨rfl, .str z, rfl, .ref st, rfl, .str z, rfl, z, rfl, zs, st, (z.length : Int), n + 2 + i, rfl, D4, by omega, by omega, by omega, fun e H5 e0 e1 D5 k5 => ?_⟩
        obtain ⟨c', hc, hmem⟩ := atI_some (xs := z.cps.toList) e0 (by rw [← len_tl]; exact e1)
        have ap' := k5 _ _ ap
        refine ⟨z, e, c', rfl, rfl, zs, hc, _, ap'.1, ?_, zl' ++ [⟨#[c']⟩], D5.put ap', Kp.put (k4.trans k5) nD D5 ap', ?_, ?_, ?_⟩
        · rw [List.length_map]
          exact small1000 (by omega)
        · rw [List.map_append]
          exact D5.putA ap'
        · rw [List.length_append, hl]
          rfl
        · intro y hy
          rcases List.mem_append.mp hy with hy | hy
          · exact hz y hy
          · rw [List.mem_singleton.mp hy]
            exact sg_one zo hmem
      · have hsum : (zl'.map (·.length)).sum = zl'.length := by
          clear hl ap
          induction zl' with
          | nil => rfl
          | cons x r ih =>
            rw [List.map_cons, List.sum_cons, ih fun y hy => hz y (List.mem_cons_of_mem _ hy), (hz x List.mem_cons_self).1, List.length_cons]
            omega
        refine ⟨_, Dl, zl', rfl, rfl, .inl (.inl (.inl ap.1)), ?_, _, rfl, D4.mono (by omega), (k2.trans k3).trans k4⟩
        rw [hsum]
        show zl'.length + zl'.length * 0 ≤ 16777216
        omega
    rintro σ' H4 ⟨y, rfl, D4, k4⟩
    refine ⟨.str y, rfl, .int (d - 1000000), rfl, .str y, rfl, .int (d - 1000000), rfl, by show 2 ≤ sizeLine; decide, fun tp ntp => ?_⟩
    have D5 := D4.new (o := .tup [.str y, .int (d - 1000000)]) ntp
    have k5 := D4.newK (o := .tup [.str y, .int (d - 1000000)]) ntp
    refine ⟨10, 28, rfl, rfl, ⟨by decide, by decide, by decide⟩, _, rfl, .int (d - 1000000), rfl, _, _, rfl, rfl, fun dp ndp => ?_⟩
    have D6 := D5.new (o := .dK []) ndp
    have k6 := D5.newK (o := .dK []) ndp
    have ad := D5.fresh (o := .dK []) ndp
    refine ⟨.str y, rfl, ad.1, [(.inr y, .int 1)], rfl, by show 1 ≤ 15; decide, ?_⟩
    have D7 := D6.put (u := .dK (mergeK [] [(.inr y, .int 1)])) ad
    have k7 : Kp st _ _ := Kp.put (u := .dK (mergeK [] [(.inr y, .int 1)])) k6 ndp D6 ad
    refine ⟨by show 9 ≤ sizeLine; decide, fun L nL => ?_⟩
    refine ⟨.ref st, rfl, st, 9, n + 8, rfl, D7.new nL, by omega, by omega, by omega, fun e H8 e0 e1 D8 k8 => ?_⟩
    have aL := k8 _ _ (D7.fresh nL)
    have key : ∀ {xs : List V}, Ap H8 st L (.lst xs) → xs.length = 9 → ∃ v, atI xs e = some v ∧ v ∈ xs := fun {xs} _ hl => atI_some e0 (by rw [hl]; exact e1)
    obtain ⟨v, hv, hm⟩ := key aL rfl
    refine ⟨L, _, e, v, rfl, rfl, Evl.sq_of aL.1, hv, hQ v H8 (D8.mono (by omega)) (((k4.trans k5).trans k7).trans ((D7.newK nL).trans k8)) ?_⟩
    simp only [List.mem_cons, List.not_mem_nil, or_false] at hm
    rcases hm with rfl | rfl | rfl | rfl | rfl | rfl | rfl | rfl | rfl
    · exact same_flat rfl
    · exact same_flat rfl
    · exact same_flat rfl
    · exact .inr ⟨_, rfl, rfl⟩
    · exact same_flat rfl
    · exact same_flat rfl
    · exact same_flat rfl
    · exact same_flat rfl
    · exact .inr ⟨_, rfl, rfl⟩
end
end Lw

namespace Lw
open PySem PySem.Spec PyProof.Rows L2
/-- an error's object stands apart from the drawing state -/
theorem ap_ext {H : Hp} {st a : Addr} {n : Nat} {o : HO} (D : DS H st n) (h : H a = some o) (no : ∀ xs, o ≠ .lst xs) : Ap H st a o := by
  obtain ⟨q, r, bs, cs, c, d, _⟩ := D
  exact (ap_iff d).mpr ⟨h, ne_of h d.st' (no _), ne_of h d.q' (no _), ne_of h d.r' (no _)⟩
theorem ErAt.kp {C : Addr} {fs : List (Str × V)} {H H' : Hp} {v : V} {st : Addr} {n : Nat} (D : DS H st n) (k : Kp st H H') (h : ErAt C fs H v) : ErAt C fs H' v := by
  obtain ⟨a, d, h1, h2, h3⟩ := h
  refine ⟨a, d, h1, (k _ _ (ap_ext D h2 fun _ => exo_lst)).1, ?_⟩
  cases d with
  | none => exact h3
  | some dx => exact (k _ _ (ap_ext D h3 fun _ => exd_lst)).1
structure Both (C : Nat → Addr) (t : List V) (st : Addr) (H : Hp) (B p1 p2 : Addr) (x1 x2 : List V) : Prop where
  b : Ap H st B (.lst [.ref p1, .ref p2])
  a1 : Ap H st p1 (.lst x1)
  r1 : Rels (MadeAt C t) H x1 L20
  a2 : Ap H st p2 (.lst x2)
  r2 : Rels (MadeAt C t) H x2 L20
section
variable {C : Nat → Addr} {t : List V} {st B p1 p2 r : Addr} {H H' : Hp} {x1 x2 : List V} {n : Nat} {o u : HO}
theorem Both.kp (D : DS H st n) (k : Kp st H H') (h : Both C t st H B p1 p2 x1 x2) : Both C t st H' B p1 p2 x1 x2 :=
  ⟨k _ _ h.b, k _ _ h.a1, h.r1.imp fun _ _ z => ErAt.kp D k z, k _ _ h.a2, h.r2.imp fun _ _ z => ErAt.kp D k z⟩
theorem Both.put (D : DS H st n) (a : Ap H st r o) (n1 : ∀ a C d, exo a C d ≠ o) (n2 : ∀ a f, exd a f ≠ o) (nb : B ≠ r) (np1 : p1 ≠ r) (np2 : p2 ≠ r) (h : Both C t st H B p1 p2 x1 x2) : Both C t st (upd H r u) B p1 p2 x1 x2 :=
  ⟨Ap.put D a h.b nb, Ap.put D a h.a1 np1, h.r1.imp fun _ _ z => ErAt.put a.1 n1 n2 z, Ap.put D a h.a2 np2, h.r2.imp fun _ _ z => ErAt.put a.1 n1 n2 z⟩
variable {σ : L2.St} {i : Nat} {lp : Addr} {E E' : XK} {K : PySem.W.Frag}
theorem q_asg0 {te : TE} {j : Nat} {tz : TS} {D : Ends} (h : te σ H fun x H1 => tz D (σ.set j (some x)) H1) : tSeq (tAsg te (gName j)) tz D σ H := h
/-- [all(t), named(t)] -/
theorem both_mk (hi : σ[i]? = some (some (.ref lp))) (hl : H lp = some (.lst t)) (h19 : t.length = 19) (D : DS H st n) {Q : VK}
    (q : ∀ B p1 p2 x1 x2 H', Evl.Ex H H' → H B = none → H p1 = none → H p2 = none → Both C t st H' B p1 p2 x1 x2 → DS H' st n → Q (.ref B) H') :
    tLst (tCons (tCall (sp_made C) [] E (tCons (tVar i) tNil)) (tCons (tCall (sp_made C) [] E' (tCons (tVar i) tNil)) tNil)) σ H Q := by
  refine ⟨.ref lp, hi, lp, t, rfl, hl, h19, fun p1 x1 H1 e1 np1 hp1 r1 => ⟨.ref lp, hi, lp, t, rfl, e1 _ _ hl, h19, fun p2 x2 H2 e2 np2 hp2 r2 => ⟨by show 2 ≤ sizeLine; decide, fun B nB => ?_⟩⟩⟩
  have e3 := Evl.Ex.new (o := .lst [.ref p1, .ref p2]) nB
  have e := (e1.trans e2).trans e3
  have nB0 := Evl.fresh_back (e1.trans e2) nB
  have np20 := Evl.fresh_back e1 np2
  exact q B p1 p2 x1 x2 _ e nB0 np1 np20 ⟨D.exNew e nB0 upd_same, D.exNew e np1 (e3 _ _ (e2 _ _ hp1)), r1.imp fun _ _ z => ErAt.ex (e2.trans e3) z, D.exNew e np20 (e3 _ _ hp2), r2.imp fun _ _ z => ErAt.ex e3 z⟩ (D.ex e)
theorem kept1 (hB : σ[5]? = some (some (.ref B))) (hi : σ[i]? = some (some (.ref lp))) (h : Both C t st H B p1 p2 x1 x2) (hl : H lp = some (.lst t)) (h19 : t.length = 19) (hs : ∀ x ∈ t, ∀ H', DSame x x H') :
    Evl.Ev (tCall (sp_keeps C) [] E (tCons (tOp (rIxL K) (tVar 5) (tC (.int 0))) (tCons (tVar i) tNil))) σ H (.bl true) := fun H1 e Q q =>
  ⟨.ref B, hB, B, _, 0, .ref p1, rfl, rfl, Evl.sq_of (e _ _ h.b.1), atI_nat (j := 0) rfl, .ref lp, hi, p1, lp, x1, t, rfl, e _ _ h.a1.1, h.r1.imp fun _ _ z => ErAt.ex e z, e _ _ hl, h19, fun x hx => hs x hx _, fun H2 e2 => q H2 e2⟩
theorem kept2 (hB : σ[5]? = some (some (.ref B))) (hi : σ[i]? = some (some (.ref lp))) (h : Both C t st H B p1 p2 x1 x2) (hl : H lp = some (.lst t)) (h19 : t.length = 19) (hs : ∀ x ∈ t, ∀ H', DSame x x H') :
    Evl.Ev (tCall (sp_keeps C) [] E (tCons (tOp (rIxL K) (tVar 5) (tC (.int 1))) (tCons (tVar i) tNil))) σ H (.bl true) := fun H1 e Q q =>
  ⟨.ref B, hB, B, _, 1, .ref p2, rfl, rfl, Evl.sq_of (e _ _ h.b.1), atI_nat (j := 1) rfl, .ref lp, hi, p2, lp, x2, t, rfl, e _ _ h.a2.1, h.r2.imp fun _ _ z => ErAt.ex e z, e _ _ hl, h19, fun x hx => hs x hx _, fun H2 e2 => q H2 e2⟩
end
theorem refs_same {rs : List Addr} : ∀ x ∈ rs.map V.ref, ∀ H', DSame x x H' := fun x hx H' => by
  obtain ⟨a, _, rfl⟩ := List.mem_map.mp hx
  exact .inr ⟨a, rfl, rfl⟩
def kA : Key := .inr "a"
def kB : Key := .inr "b"
theorem valAB (kvs : List (Key × V)) (w : V) : valV (putK kvs kB w) kA = valV kvs kA := by
  rw [valV_put, if_neg (by decide +kernel)]
abbrev s_law : Stmt := topS 31
abbrev n_law : List Str := ["_law_script", "_law_state", "_law_t", "_law_k", "_law_lists", "_law_both", "_law_row", "_law_dicts"]
theorem sc_law : FnScope n_law ["_law_script"] (defScope s_law) := ⟨rfl, rfl, rfl, by decide +kernel, rfl, by decide +kernel, by decide +kernel⟩
section
variable {P : Program} {w : World} {K : PySem.W.Frag} {mg : Str → Option Value} {base : Heap}
def sp_law (K : PySem.W.Frag) : Sp := fun vs H Q _ => ∃ (a : Addr) (ns : List Int), vs = [.ref a] ∧ SqL K H a (ns.map V.int) ∧ ns.length ≤ 63 ∧ ∀ H', Q (.bl true) H'
theorem ok_law {f f1 f2 f3 f4 f5 f6 : Addr} {fd fd1 fd2 fd3 fd4 fd5 fd6 : FuncData} {C : Nat → Addr} (F : Fun K "law" "law" s_law f fd)
    (F_law_start : Fun K "_law_start" "_law_start" s_law_start f1 fd1) (b_law_start : Binds K fd1 ["_law_script"] []) (g_law_start : mg "_law_start" = some (.ref f1)) (G_law_start : FnOk P w K mg base CX0 1 f1 fd1 ["_law_script"] (sp_start K))
    (F_law_draw : Fun K "_law_draw" "_law_draw" s_law_draw f2 fd2) (b_law_draw : Binds K fd2 ["_law_state", "_law_size"] []) (g_law_draw : mg "_law_draw" = some (.ref f2)) (G_law_draw : FnOk P w K mg base CX0 1 f2 fd2 ["_law_state", "_law_size"] sp_draw)
    (F_law_thing : Fun K "_law_thing" "_law_thing" s_law_thing f3 fd3) (b_law_thing : Binds K fd3 ["_law_state"] []) (g_law_thing : mg "_law_thing" = some (.ref f3)) (G_law_thing : FnOk P w K mg base CX0 2 f3 fd3 ["_law_state"] sp_thing)
    (F_law_all : Fun K "_law_all" "_law_all" s_law_all f4 fd4) (b_law_all : Binds K fd4 ["_law_t"] []) (g_law_all : mg "_law_all" = some (.ref f4)) (G_law_all : FnOk P w K mg base CX0 3 f4 fd4 ["_law_t"] (sp_made C))
    (F_law_named : Fun K "_law_named" "_law_named" s_law_named f5 fd5) (b_law_named : Binds K fd5 ["_law_t"] []) (g_law_named : mg "_law_named" = some (.ref f5)) (G_law_named : FnOk P w K mg base CX0 3 f5 fd5 ["_law_t"] (sp_made C))
    (F_law_keeps : Fun K "_law_keeps" "_law_keeps" s_law_keeps f6 fd6) (b_law_keeps : Binds K fd6 ["_law_made", "_law_t"] []) (g_law_keeps : mg "_law_keeps" = some (.ref f6)) (G_law_keeps : FnOk P w K mg base CX0 3 f6 fd6 ["_law_made", "_law_t"] (sp_keeps C))
    (m_range : mg "range" = none) : FnOk P w K mg base CX0 4 f fd ["_law_script"] (sp_law K) := by
  refine F.ok sc_law (fun vs H Q E h => ?_) (fun cdv A outer s H vs Q E hr h => ?_)
  · obtain ⟨a, ns, rfl, _⟩ := h
    rfl
  · obtain ⟨a, ns, rfl, hS, hlen, hQ⟩ := h
    refine ⟨_, (pss_cons (ps_set (i := 1) sc_law.nd rfl (by first | exact .inl rfl | exact .inr rfl) (pe_call G_law_start (hr.mono (by decide)) (by rfl) g_law_start F_law_start.kp b_law_start .nil pass0 (pa_cons (pv 0) pa_nil)))
  (Evl.pss_cut (ps_setLc (i := 2) (own := [("_law_k", 3)]) (g := gName 3) (by rfl) sc_law.nd rfl rfl (sw_true rfl rfl rfl (by decide +kernel)) (pi_range1 (by rfl) m_range (pa_cons pe_int pa_nil)) (blkOk_by (own := [("_law_k", 3)]) (N := n_law) (sc := defScope s_law) (by decide +kernel)) (fun _ _ _ _ _ => pg_name (i := 3) sc_law.nd rfl (by first | exact .inl rfl | exact .inr rfl)) (fun _ _ _ _ _ => pts_nil) (fun _ _ _ _ _ => (pe_call G_law_thing (hr.mono (by decide)) (by rfl) g_law_thing F_law_thing.kp b_law_thing .nil pass0 (pa_cons (pv 1) pa_nil))))
  (pss_cons (ps_if (PW.pt (pw_or (pt_not (pt_val (pe_call G_law_keeps (hr.mono (by decide)) (by rfl) g_law_keeps F_law_keeps.kp b_law_keeps .nil pass0 (pa_cons (pe_call G_law_all (hr.mono (by decide)) (by rfl) g_law_all F_law_all.kp b_law_all .nil pass0 (pa_cons (pv 2) pa_nil)) (pa_cons (pv 2) pa_nil))))) (pw_or1 (pt_not (pt_val (pe_call G_law_keeps (hr.mono (by decide)) (by rfl) g_law_keeps F_law_keeps.kp b_law_keeps .nil pass0 (pa_cons (pe_call G_law_named (hr.mono (by decide)) (by rfl) g_law_named F_law_named.kp b_law_named .nil pass0 (pa_cons (pv 2) pa_nil)) (pa_cons (pv 2) pa_nil))))))))
   (pss_one (ps_ret pe_bl))
   pss_nil)
  (Evl.pss_cut (ps_setLc (i := 4) (own := [("_law_k", 3)]) (g := gName 3) (by rfl) sc_law.nd rfl rfl (sw_true rfl rfl rfl (by decide +kernel)) (pi_range1 (by rfl) m_range (pa_cons pe_int pa_nil)) (blkOk_by (own := [("_law_k", 3)]) (N := n_law) (sc := defScope s_law) (by decide +kernel)) (fun _ _ _ _ _ => pg_name (i := 3) sc_law.nd rfl (by first | exact .inl rfl | exact .inr rfl)) (fun _ _ _ _ _ => pts_nil) (fun _ _ _ _ _ => (pe_lst (pa_cons (pe_call G_law_draw (hr.mono (by decide)) (by rfl) g_law_draw F_law_draw.kp b_law_draw .nil pass0 (pa_cons (pv 1) (pa_cons pe_int pa_nil))) pa_nil))))
  (pss_cons (ps_set (i := 5) sc_law.nd rfl (by first | exact .inl rfl | exact .inr rfl) (pe_lst (pa_cons (pe_call G_law_all (hr.mono (by decide)) (by rfl) g_law_all F_law_all.kp b_law_all .nil pass0 (pa_cons (pv 4) pa_nil)) (pa_cons (pe_call G_law_named (hr.mono (by decide)) (by rfl) g_law_named F_law_named.kp b_law_named .nil pass0 (pa_cons (pv 4) pa_nil)) pa_nil))))
  (Evl.pss_cut (ps_for PassesOwn.never rfl  (pi_list (pv 4)) (pg_name (i := 6) sc_law.nd rfl (by first | exact .inl rfl | exact .inr rfl))
   (pss_one (ps_expr (pe_bm PySem.F.plainAttrs_list PySem.F.slot_list_append PySem.F.type_list_append mt_append (pv 6) (pa_cons (pe_call G_law_draw (hr.mono (by decide)) (by rfl) g_law_draw F_law_draw.kp b_law_draw .nil pass0 (pa_cons (pv 1) (pa_cons pe_int pa_nil))) pa_nil)))))
  (pss_cons (ps_if (PW.pt (pw_or (pt_not (pt_val (pe_call G_law_keeps (hr.mono (by decide)) (by rfl) g_law_keeps F_law_keeps.kp b_law_keeps .nil pass0 (pa_cons (pe_ix ix_list (pv 5) pe_int (fun _ _ => rfl)) (pa_cons (pv 4) pa_nil))))) (pw_or1 (pt_not (pt_val (pe_call G_law_keeps (hr.mono (by decide)) (by rfl) g_law_keeps F_law_keeps.kp b_law_keeps .nil pass0 (pa_cons (pe_ix ix_list (pv 5) pe_int (fun _ _ => rfl)) (pa_cons (pv 4) pa_nil))))))))
   (pss_one (ps_ret pe_bl))
   pss_nil)
  (Evl.pss_cut (ps_setLc (i := 7) (own := [("_law_k", 3)]) (g := gName 3) (by rfl) sc_law.nd rfl rfl (sw_true rfl rfl rfl (by decide +kernel)) (pi_range1 (by rfl) m_range (pa_cons pe_int pa_nil)) (blkOk_by (own := [("_law_k", 3)]) (N := n_law) (sc := defScope s_law) (by decide +kernel)) (fun _ _ _ _ _ => pg_name (i := 3) sc_law.nd rfl (by first | exact .inl rfl | exact .inr rfl)) (fun _ _ _ _ _ => pts_nil) (fun _ _ _ _ _ => (pe_disp (pps_cons pe_str (pe_call G_law_draw (hr.mono (by decide)) (by rfl) g_law_draw F_law_draw.kp b_law_draw .nil pass0 (pa_cons (pv 1) (pa_cons pe_int pa_nil))) pps_nil) rfl rfl (by intro h; cases h) (by decide))))
  (pss_cons (ps_set (i := 5) sc_law.nd rfl (by first | exact .inl rfl | exact .inr rfl) (pe_lst (pa_cons (pe_call G_law_all (hr.mono (by decide)) (by rfl) g_law_all F_law_all.kp b_law_all .nil pass0 (pa_cons (pv 7) pa_nil)) (pa_cons (pe_call G_law_named (hr.mono (by decide)) (by rfl) g_law_named F_law_named.kp b_law_named .nil pass0 (pa_cons (pv 7) pa_nil)) pa_nil))))
  (Evl.pss_cut (ps_for PassesOwn.never rfl  (pi_list (pv 7)) (pg_name (i := 6) sc_law.nd rfl (by first | exact .inl rfl | exact .inr rfl))
   (pss_one (ps_dput (hu_of hr) (pv 6) pe_str (pe_lst (pa_cons (pe_dget (hu_of hr) (pv 6) pe_str (fun _ _ => rfl)) pa_nil)) rfl)))
  (pss_one (ps_ret (pe_and (pe_call G_law_keeps (hr.mono (by decide)) (by rfl) g_law_keeps F_law_keeps.kp b_law_keeps .nil pass0 (pa_cons (pe_ix ix_list (pv 5) pe_int (fun _ _ => rfl)) (pa_cons (pv 7) pa_nil))) (pe_one (pe_call G_law_keeps (hr.mono (by decide)) (by rfl) g_law_keeps F_law_keeps.kp b_law_keeps .nil pass0 (pa_cons (pe_ix ix_list (pv 5) pe_int (fun _ _ => rfl)) (pa_cons (pv 7) pa_nil))))))))))))))))), ?_⟩
    refine ⟨.ref a, rfl, a, ns, rfl, hS, hlen, fun st H1 D1 _ => ?_⟩
    -- any things
    refine ⟨fun σ' H' => ∃ (q : Addr) (t : List V), σ' = [some (.ref a), some (.ref st), some (.ref q), none, none, none, none, none] ∧ DS H' st 200 ∧ Ap H' st q (.lst t) ∧ t.length = 19 ∧ ∀ x ∈ t, ∀ H', DSame x x H', ?_, ?_⟩
    · refine ⟨19, rfl, by omega, by omega, fun Dl nD => ?_⟩
      refine lc_range (lo := 0) (n := 19) (fun i H' => ∃ t : List V, DS H' st (10 * i) ∧ Ap H' st Dl (.lst t) ∧ t.length = i ∧ ∀ x ∈ t, ∀ H', DSame x x H') ⟨[], D1.new nD, D1.fresh nD, rfl, fun _ h => by simp at h⟩ (fun i H' hi ⟨t, D2, ap, hl, hs⟩ => ?_) (fun H' ⟨t, D2, ap, hl, hs⟩ => ⟨Dl, t, rfl, D2.mono (by omega), ap, hl, hs⟩)
      refine ⟨rfl, .ref st, rfl, st, 10 * i, rfl, D2, by omega, fun v H3 D3 k3 sm => ?_⟩
      have ap3 := k3 _ _ ap
      refine ⟨t, ap3.1, Evl.sz_lt (by omega), t ++ [v], (D3.put ap3).mono (by omega), D3.putA ap3, by rw [List.length_append, hl]; rfl, fun x hx => ?_⟩
      rcases List.mem_append.mp hx with hx | hx
      · exact hs x hx
      · rw [List.mem_singleton.mp hx]
        exact fun _ => sm
    rintro σ' H2 ⟨q, t, rfl, D2, aq, hl, hs⟩
    dsimp only [gName]
    have kp : ∀ {H' : Hp} (sp : Sp), sp = sp_made C → Evl.Ex H2 H' → Evl.Ev (tCall (sp_keeps C) [] E0 (tCons (tCall sp [] E0 (tCons (tVar 2) tNil)) (tCons (tVar 2) tNil))) [some (.ref a), some (.ref st), some (.ref q), none, none, none, none, none] H' (.bl true) := fun {H'} sp es e0 H3 e Q q' => by
      subst es
      exact ⟨.ref q, rfl, q, t, rfl, e _ _ (e0 _ _ aq.1), hl, fun p xs H4 e4 np hp r => ⟨.ref q, rfl, p, q, xs, t, rfl, hp, r, e4 _ _ (e _ _ (e0 _ _ aq.1)), hl, fun x hx => hs x hx _, fun H5 e5 => q' H5 (e4.trans e5)⟩⟩
    refine Evl.q_when (b := !true || !true) (Evl.et_or (Evl.et_not (Evl.et_B (kp _ rfl (Evl.Ex.refl _)))) fun _ => Evl.et_not (Evl.et_B (kp _ rfl (Evl.Ex.refl _)))) (fun hb => nomatch hb) (fun _ H3 e3 => ?_)
    have D3 := D2.ex e3
    -- lists that grow
    refine ⟨fun σ' H' => ∃ (lp : Addr) (rs : List Addr), σ' = [some (.ref a), some (.ref st), some (.ref q), none, some (.ref lp), none, none, none] ∧ DS H' st 300 ∧ Ap H' st lp (.lst (rs.map V.ref)) ∧ rs.length = 19 ∧ ∀ r ∈ rs, r ≠ lp ∧ ∃ xs : List V, xs.length ≤ 5 ∧ Ap H' st r (.lst xs), ?_, ?_⟩
    · refine ⟨19, rfl, by omega, by omega, fun Dl nD => ?_⟩
      refine lc_range (lo := 0) (n := 19) (fun i H' => ∃ rs : List Addr, DS H' st (200 + i) ∧ Ap H' st Dl (.lst (rs.map V.ref)) ∧ rs.length = i ∧ ∀ r ∈ rs, r ≠ Dl ∧ ∃ xs : List V, xs.length ≤ 5 ∧ Ap H' st r (.lst xs)) ⟨[], D3.new nD, D3.fresh nD, rfl, fun _ h => by simp at h⟩ (fun i H' hi ⟨rs, D4, ap, hl, hr⟩ => ?_) (fun H' ⟨rs, D4, ap, hl, hr⟩ => ⟨Dl, rs, rfl, D4.mono (by omega), ap, hl, hr⟩)
      refine ⟨rfl, .ref st, rfl, st, 9, 200 + i, rfl, D4, by omega, by omega, by omega, fun d H5 _ _ D5 k5 => ⟨by show 1 ≤ sizeLine; decide, fun r nr => ?_⟩⟩
      have D6 := D5.new (o := .lst [.int d]) nr
      have k6 := D5.newK (o := .lst [.int d]) nr
      have ar := D5.fresh (o := .lst [.int d]) nr
      have ap6 := k6 _ _ (k5 _ _ ap)
      have nrD : r ≠ Dl := (ne_of_none (k5 _ _ ap).1 nr).symm
      refine ⟨rs.map V.ref, ap6.1, Evl.sz_lt (by rw [List.length_map]; omega), rs ++ [r], (D6.put ap6).mono (by omega), by rw [List.map_append]; exact D6.putA ap6, by rw [List.length_append, hl]; rfl, fun x hx => ?_⟩
      rcases List.mem_append.mp hx with hx | hx
      · obtain ⟨h1, xs, h2, h3⟩ := hr x hx
        exact ⟨h1, xs, h2, Ap.put D6 ap6 (k6 _ _ (k5 _ _ h3)) h1⟩
      · rw [List.mem_singleton.mp hx]
        exact ⟨nrD, _, by show 1 ≤ 5; omega, Ap.put D6 ap6 ar nrD⟩
    rintro σ' H3 ⟨lp, rs, rfl, D3, alp, hl, hrs⟩
    refine q_asg0 (both_mk (C := C) (i := 4) (σ := [some (.ref a), some (.ref st), some (.ref q), none, some (.ref lp), none, none, none]) rfl alp.1 (by rw [List.length_map]; exact hl) D3 fun B p1 p2 x1 x2 H4 e4 nB np1 np2 bo D4 => ?_)
    have alp4 := D3.exK e4 _ _ alp
    have hrs4 : ∀ r ∈ rs, r ≠ lp ∧ (B ≠ r ∧ p1 ≠ r ∧ p2 ≠ r) ∧ ∃ xs : List V, xs.length ≤ 100 ∧ Ap H4 st r (.lst xs) := fun r hr' => by
      obtain ⟨h1, xs, h2, h3⟩ := hrs r hr'
      exact ⟨h1, ⟨(ne_of_none h3.1 nB).symm, (ne_of_none h3.1 np1).symm, (ne_of_none h3.1 np2).symm⟩, xs, by omega, D3.exK e4 _ _ h3⟩
    have nlp : B ≠ lp ∧ p1 ≠ lp ∧ p2 ≠ lp := ⟨(ne_of_none alp.1 nB).symm, (ne_of_none alp.1 np1).symm, (ne_of_none alp.1 np2).symm⟩
    refine ⟨fun σ' H' => ∃ o6, σ' = [some (.ref a), some (.ref st), some (.ref q), none, some (.ref lp), some (.ref B), o6, none] ∧ DS H' st 400 ∧ Ap H' st lp (.lst (rs.map V.ref)) ∧ Both C (rs.map V.ref) st H' B p1 p2 x1 x2, ?_, ?_⟩
    · refine Evl.s_forL (a := lp) (xs := rs.map V.ref) (Evl.ev_var rfl) (Evl.sq_of alp4.1) (fun i σ' H' => ∃ o6, σ' = [some (.ref a), some (.ref st), some (.ref q), none, some (.ref lp), some (.ref B), o6, none] ∧ DS H' st (300 + i) ∧ Ap H' st lp (.lst (rs.map V.ref)) ∧ Both C (rs.map V.ref) st H' B p1 p2 x1 x2 ∧ ∀ r ∈ rs, ∃ xs : List V, xs.length ≤ 100 + i ∧ Ap H' st r (.lst xs))
        (fun H5 e5 => ⟨_, rfl, D4.ex e5, D4.exK e5 _ _ alp4, bo.kp D4 (D4.exK e5), fun r hr' => by obtain ⟨_, _, xs, h2, h3⟩ := hrs4 r hr'; exact ⟨xs, h2, D4.exK e5 _ _ h3⟩⟩) (fun i σ' H' _ ⟨_, _, _, al, _⟩ => Evl.sq_of al.1) (fun i x σ' H' hx ⟨o6, es, D5, al, bo5, hr5⟩ => ?_) (fun σ' H' ⟨o6, es, D5, al, bo5, _⟩ => ⟨o6, es, D5.mono (by rw [List.length_map]; omega), al, bo5⟩)
      subst es
      rw [List.getElem?_map] at hx
      obtain ⟨r, hxr, rfl⟩ := Option.map_eq_some_iff.mp hx
      have hrm := List.mem_of_getElem? hxr
      have hi19 : i < 19 := by rw [← hl]; exact (List.getElem?_eq_some_iff.mp hxr).1
      obtain ⟨xs, hxl, ax⟩ := hr5 r hrm
      obtain ⟨nrl, ⟨nb, n1, n2⟩, _⟩ := hrs4 r hrm
      dsimp only [gName]
      refine ⟨.ref r, rfl, .inl ⟨rfl, xs, Evl.sq_of ax.1⟩, .ref st, rfl, st, 9, 300 + i, rfl, D5, by omega, by omega, by omega, fun d H6 _ _ D6 k6 => ⟨r, xs, .int d, rfl, rfl, (k6 _ _ ax).1, Evl.sz_lt (by omega), ?_⟩⟩
      have ax6 := k6 _ _ ax
      refine ⟨_, rfl, (D6.put ax6).mono (by omega), Ap.put D6 ax6 (k6 _ _ al) (Ne.symm nrl), (bo5.kp D5 k6).put D6 ax6 (fun _ _ _ => exo_lst) (fun _ _ => exd_lst) nb n1 n2, fun r' hr' => ?_⟩
      by_cases e : r' = r
      · subst e
        exact ⟨_, by rw [List.length_append]; show xs.length + 1 ≤ _; omega, D6.putA ax6⟩
      · obtain ⟨ys, hyl, ay⟩ := hr5 r' hr'
        exact ⟨ys, by omega, Ap.put D6 ax6 (k6 _ _ ay) e⟩
    rintro σ' H5 ⟨o6, rfl, D5, alp, bo⟩
    have l19 : (rs.map V.ref).length = 19 := by rw [List.length_map]; exact hl
    refine Evl.q_when (b := !true || !true) (Evl.et_or (Evl.et_not (Evl.et_B (kept1 rfl rfl bo alp.1 l19 refs_same))) fun _ => Evl.et_not (Evl.et_B (kept2 rfl rfl bo alp.1 l19 refs_same))) (fun hb => nomatch hb) (fun _ H6 e6 => ?_)
    have D6 := D5.ex e6
    -- dicts that grow
    refine ⟨fun σ' H' => ∃ (lp2 : Addr) (rs : List Addr), σ' = [some (.ref a), some (.ref st), some (.ref q), none, some (.ref lp), some (.ref B), o6, some (.ref lp2)] ∧ DS H' st 500 ∧ Ap H' st lp2 (.lst (rs.map V.ref)) ∧ rs.length = 19 ∧ ∀ r ∈ rs, r ≠ lp2 ∧ ∃ (kvs : List (Key × V)) (d : Int), kvs.length ≤ 5 ∧ valV kvs kA = some (.int d) ∧ Ap H' st r (.dK kvs), ?_, ?_⟩
    · refine ⟨19, rfl, by omega, by omega, fun Dl nD => ?_⟩
      refine lc_range (lo := 0) (n := 19) (fun i H' => ∃ rs : List Addr, DS H' st (400 + i) ∧ Ap H' st Dl (.lst (rs.map V.ref)) ∧ rs.length = i ∧ ∀ r ∈ rs, r ≠ Dl ∧ ∃ (kvs : List (Key × V)) (d : Int), kvs.length ≤ 5 ∧ valV kvs kA = some (.int d) ∧ Ap H' st r (.dK kvs)) ⟨[], D6.new nD, D6.fresh nD, rfl, fun _ h => by simp at h⟩ (fun i H' hi ⟨rs, D7, ap, hl, hr⟩ => ?_) (fun H' ⟨rs, D7, ap, hl, hr⟩ => ⟨Dl, rs, rfl, D7.mono (by omega), ap, hl, hr⟩)
      refine ⟨rfl, fun dp ndp => ?_⟩
      have D8 := D7.new (o := .dK []) ndp
      have k8 := D7.newK (o := .dK []) ndp
      have ad := D7.fresh (o := .dK []) ndp
      refine ⟨.ref st, rfl, st, 9, 400 + i, rfl, D8, by omega, by omega, by omega, fun d H9 _ _ D9 k9 => ?_⟩
      have ad9 := k9 _ _ ad
      refine ⟨ad9.1, [(kA, .int d)], rfl, by show 1 ≤ 15; decide, ?_⟩
      have D10 := D9.put (u := .dK (mergeK [] [(kA, .int d)])) ad9
      have ad10 := D9.putA (u := .dK (mergeK [] [(kA, .int d)])) ad9
      have nDd : Dl ≠ dp := ne_of_none ap.1 ndp
      have ap10 := Ap.put (u := .dK (mergeK [] [(kA, .int d)])) D9 ad9 (k9 _ _ (k8 _ _ ap)) nDd
      refine ⟨rs.map V.ref, ap10.1, Evl.sz_lt (by rw [List.length_map]; omega), rs ++ [dp], (D10.put ap10).mono (by omega), by rw [List.map_append]; exact D10.putA ap10, by rw [List.length_append, hl]; rfl, fun x hx => ?_⟩
      rcases List.mem_append.mp hx with hx | hx
      · obtain ⟨h1, kvs, d', h2, h3, h4⟩ := hr x hx
        exact ⟨h1, kvs, d', h2, h3, Ap.put D10 ap10 (Ap.put D9 ad9 (k9 _ _ (k8 _ _ h4)) (ne_of_none h4.1 ndp)) h1⟩
      · rw [List.mem_singleton.mp hx]
        exact ⟨Ne.symm nDd, _, d, by show 1 ≤ 5; omega, rfl, Ap.put D10 ap10 ad10 (Ne.symm nDd)⟩
    rintro σ' H3 ⟨lp2, rs, rfl, D3, alp, hl, hrs⟩
    refine q_asg0 (both_mk (C := C) (i := 7) (σ := [some (.ref a), some (.ref st), some (.ref q), none, some (.ref lp), some (.ref B), o6, some (.ref lp2)]) rfl alp.1 (by rw [List.length_map]; exact hl) D3 fun B p1 p2 x1 x2 H4 e4 nB np1 np2 bo D4 => ?_)
    have alp4 := D3.exK e4 _ _ alp
    have hrs4 : ∀ r ∈ rs, r ≠ lp2 ∧ (B ≠ r ∧ p1 ≠ r ∧ p2 ≠ r) ∧ ∃ (kvs : List (Key × V)) (d : Int), kvs.length ≤ 100 ∧ valV kvs kA = some (.int d) ∧ Ap H4 st r (.dK kvs) := fun r hr' => by
      obtain ⟨h1, xs, d, h2, h0, h3⟩ := hrs r hr'
      exact ⟨h1, ⟨(ne_of_none h3.1 nB).symm, (ne_of_none h3.1 np1).symm, (ne_of_none h3.1 np2).symm⟩, xs, d, by omega, h0, D3.exK e4 _ _ h3⟩
    have nlp : B ≠ lp2 ∧ p1 ≠ lp2 ∧ p2 ≠ lp2 := ⟨(ne_of_none alp.1 nB).symm, (ne_of_none alp.1 np1).symm, (ne_of_none alp.1 np2).symm⟩
    refine ⟨fun σ' H' => ∃ o6, σ' = [some (.ref a), some (.ref st), some (.ref q), none, some (.ref lp), some (.ref B), o6, some (.ref lp2)] ∧ Ap H' st lp2 (.lst (rs.map V.ref)) ∧ Both C (rs.map V.ref) st H' B p1 p2 x1 x2, ?_, ?_⟩
    · refine Evl.s_forL (a := lp2) (xs := rs.map V.ref) (Evl.ev_var rfl) (Evl.sq_of alp4.1) (fun i σ' H' => ∃ o6, σ' = [some (.ref a), some (.ref st), some (.ref q), none, some (.ref lp), some (.ref B), o6, some (.ref lp2)] ∧ DS H' st 500 ∧ Ap H' st lp2 (.lst (rs.map V.ref)) ∧ Both C (rs.map V.ref) st H' B p1 p2 x1 x2 ∧ ∀ r ∈ rs, ∃ (kvs : List (Key × V)) (d : Int), kvs.length ≤ 100 + i ∧ valV kvs kA = some (.int d) ∧ Ap H' st r (.dK kvs))
        (fun H5 e5 => ⟨_, rfl, D4.ex e5, D4.exK e5 _ _ alp4, bo.kp D4 (D4.exK e5), fun r hr' => by obtain ⟨_, _, xs, d, h2, h0, h3⟩ := hrs4 r hr'; exact ⟨xs, d, h2, h0, D4.exK e5 _ _ h3⟩⟩) (fun i σ' H' _ ⟨_, _, _, al, _⟩ => Evl.sq_of al.1) (fun i x σ' H' hx ⟨o6, es, D5, al, bo5, hr5⟩ => ?_) (fun σ' H' ⟨o6, es, D5, al, bo5, _⟩ => ⟨o6, es, al, bo5⟩)
      subst es
      rw [List.getElem?_map] at hx
      obtain ⟨r, hxr, rfl⟩ := Option.map_eq_some_iff.mp hx
      have hrm := List.mem_of_getElem? hxr
      have hi19 : i < 19 := by rw [← hl]; exact (List.getElem?_eq_some_iff.mp hxr).1
      obtain ⟨kvs, d, hxl, hva, ax⟩ := hr5 r hrm
      obtain ⟨nrl, ⟨nb, n1, n2⟩, _⟩ := hrs4 r hrm
      dsimp only [gName]
      refine ⟨.ref r, rfl, r, .int d, rfl, ?_, by show 1 ≤ sizeLine; decide, fun l nl => ?_⟩
      · have := DGet.k (k := kA) ax.1
        rw [hva] at this
        exact this
      have D6 := D5.new (o := .lst [.int d]) nl
      have k6 := D5.newK (o := .lst [.int d]) nl
      have ax6 := k6 _ _ ax
      refine ⟨.ref r, rfl, r, _, rfl, DPut.k (k := kB) ax6.1 (Evl.sz_lt (by omega)), ?_⟩
      refine ⟨_, rfl, D6.put ax6, Ap.put D6 ax6 (k6 _ _ al) (Ne.symm nrl), (bo5.kp D5 k6).put D6 ax6 (fun _ _ _ => exo_dk) (fun _ _ => exd_dk) nb n1 n2, fun r' hr' => ?_⟩
      by_cases e : r' = r
      · subst e
        refine ⟨_, d, ?_, ?_, D6.putA ax6⟩
        · have := length_putK kvs kB (.ref l)
          omega
        · rw [valAB]
          exact hva
      · obtain ⟨ys, d', hyl, hyv, ay⟩ := hr5 r' hr'
        exact ⟨ys, d', by omega, hyv, Ap.put D6 ax6 (k6 _ _ ay) e⟩
    rintro σ' H5 ⟨o6, rfl, alp, bo⟩
    have l19 : (rs.map V.ref).length = 19 := by rw [List.length_map]; exact hl
    exact Evl.s_ret (v := .bl true) (Evl.ev_is (Evl.ev_andV (a := true) (b := true) (kept1 rfl rfl bo alp.1 l19 refs_same) fun _ => kept2 rfl rfl bo alp.1 l19 refs_same) rfl) fun H6 _ => hQ H6
end
end Lw

namespace Lw
open PySem PySem.Spec PyProof.Rows L2

theorem er1_mk {P : Program} {w : World} {K : PySem.W.Frag} {hh : Heap} {mg : Str → Option Value} (X : K.In hh) (G : hh.Ns mainGlobals mg) {c f qn : Str} (st : Stmt)
    (ok : ∀ {fI : Addr} {fd : FuncData} {C : Addr} {base : Heap}, Fun K "__init__" qn st fI fd → OexC K C → PySem.W.findIn K (.ref C) f = some none → FnOk P w K mg base CX0 1 fI fd ["self", f] (sp_init1 K C f))
    (bi : ∀ {fI : Addr} {fd : FuncData}, Fun K "__init__" qn st fI fd → Binds K fd ["self", f] []) (kb : ∀ {fI : Addr} {fd : FuncData}, Fun K "__init__" qn st fI fd → KBinds K fd ["self", f] [f] kwG kwG)
    {C I N E : Addr} {nm q : Str} {bs sub : List Value} {sn : List Str} {ab : Bool} {col : Option Bool} {dd : Option Addr} {m0 m1 m2 m3 m5 : Option Value} {od an : Option Addr} {sl : Array (Option Value)} {oc kV dc pm cd ct : Value}
    (aC : PySem.W.nsIn K mainGlobals c = some (some (.ref C)))
    (xL : K.lookup C = some (excClassObj nm q C N bs (.ref E :: [.type "ValueError", .type "Exception", .type "BaseException", .type "object"]) true sn sub ab col dd m0 m1 m2 m3 m5 "ValueError.__new__"))
    (sa : PySem.W.findIn K (.ref C) "__setattr__" = some (some (.builtin "object.__setattr__"))) (ga : PySem.W.findIn K (.ref C) "__getattribute__" = some (some (.builtin "BaseException.__getattribute__"))) (gg : PySem.W.findIn K (.ref C) "__getattr__" = some none) (nb : PySem.W.findIn K (.ref C) f = some none)
    (iC : PySem.W.findIn K (.ref C) "__init__" = some (some (.ref I))) (tI : PySem.W.typeIn K (.ref I) = some (.type "function")) (kC : PySem.W.keepIn K (.ref C) = true) (eC : PySem.W.subIn K (.ref C) (.type "BaseException") = some true) (tC : PySem.W.typeIn K (.ref C) = some (.type "type")) (hC : PySem.W.hasDictIn K C = true)
    (cA : PySem.W.findIn K (.ref C) "__class__" = some (some (.builtin "object.__class__"))) (mo : PySem.W.mroIn K C (.type "object") = some true)
    (lI : K.lookup I = some ⟨oc, od, .func (PySem.W.fnOf "__init__" qn (defArgs st) (defBody st) (defScope st) .none kV dc pm an cd ct), sl⟩) (dI : PySem.W.codeIn K cd qn = true) (kI : PySem.W.keepIn K (.ref I) = true)
    (gsn : PySem.W.specialIn K (.builtin "object.__class__") "__get__" = some (some (.builtin "getset_descriptor.__get__"))) (gtk : PySem.W.takesIn K (.builtin "object.__class__") = some true) :
    (∀ base : Heap, ErC P w K mg base c f C I (PySem.W.fnOf "__init__" qn (defArgs st) (defBody st) (defScope st) .none kV dc pm an cd ct)) ∧ KBinds K (PySem.W.fnOf "__init__" qn (defArgs st) (defBody st) (defScope st) .none kV dc pm an cd ct) ["self", f] [f] kwG kwG := by
  have O : OexC K C := ⟨⟨_, _, _, _, _, _, _, _, _, _, _, _, _, _, _, xL, by first | rfl | decide +kernel⟩, sa, eC, tC, kC⟩
  have FI := fun_mk (st := st) lI dI kI
  exact ⟨fun base => ⟨O, ⟨ga, gg, eC, hC⟩, ⟨by unfold PySem.W.clsIn; rw [xL] <;> rfl, ga, ⟨_, gg⟩, eC, cA, gsn, gtk, mo⟩, iC, tI, nb, PySem.W.mg_of X G aC, ok FI O nb, bi FI⟩, kb FI⟩
theorem er2_mk {P : Program} {w : World} {K : PySem.W.Frag} {hh : Heap} {mg : Str → Option Value} (X : K.In hh) (G : hh.Ns mainGlobals mg) {c f f2 qn : Str} (st : Stmt)
    (ok : ∀ {fI : Addr} {fd : FuncData} {C : Addr} {base : Heap}, Fun K "__init__" qn st fI fd → OexC K C → PySem.W.findIn K (.ref C) f = some none → PySem.W.findIn K (.ref C) f2 = some none → FnOk P w K mg base CX0 1 fI fd ["self", f, f2] (sp_init2 K C f f2))
    (bi : ∀ {fI : Addr} {fd : FuncData}, Fun K "__init__" qn st fI fd → Binds K fd ["self", f, f2] []) (kb : ∀ {fI : Addr} {fd : FuncData}, Fun K "__init__" qn st fI fd → KBinds K fd ["self", f, f2] [f2, f] kwG2 kwG2)
    {C I N E : Addr} {nm q : Str} {bs sub : List Value} {sn : List Str} {ab : Bool} {col : Option Bool} {dd : Option Addr} {m0 m1 m2 m3 m5 : Option Value} {od an : Option Addr} {sl : Array (Option Value)} {oc kV dc pm cd ct : Value}
    (aC : PySem.W.nsIn K mainGlobals c = some (some (.ref C)))
    (xL : K.lookup C = some (excClassObj nm q C N bs (.ref E :: [.type "ValueError", .type "Exception", .type "BaseException", .type "object"]) true sn sub ab col dd m0 m1 m2 m3 m5 "ValueError.__new__"))
    (sa : PySem.W.findIn K (.ref C) "__setattr__" = some (some (.builtin "object.__setattr__"))) (ga : PySem.W.findIn K (.ref C) "__getattribute__" = some (some (.builtin "BaseException.__getattribute__"))) (gg : PySem.W.findIn K (.ref C) "__getattr__" = some none) (nb : PySem.W.findIn K (.ref C) f = some none) (nb2 : PySem.W.findIn K (.ref C) f2 = some none)
    (iC : PySem.W.findIn K (.ref C) "__init__" = some (some (.ref I))) (tI : PySem.W.typeIn K (.ref I) = some (.type "function")) (kC : PySem.W.keepIn K (.ref C) = true) (eC : PySem.W.subIn K (.ref C) (.type "BaseException") = some true) (tC : PySem.W.typeIn K (.ref C) = some (.type "type")) (hC : PySem.W.hasDictIn K C = true)
    (cA : PySem.W.findIn K (.ref C) "__class__" = some (some (.builtin "object.__class__"))) (mo : PySem.W.mroIn K C (.type "object") = some true)
    (lI : K.lookup I = some ⟨oc, od, .func (PySem.W.fnOf "__init__" qn (defArgs st) (defBody st) (defScope st) .none kV dc pm an cd ct), sl⟩) (dI : PySem.W.codeIn K cd qn = true) (kI : PySem.W.keepIn K (.ref I) = true)
    (gsn : PySem.W.specialIn K (.builtin "object.__class__") "__get__" = some (some (.builtin "getset_descriptor.__get__"))) (gtk : PySem.W.takesIn K (.builtin "object.__class__") = some true) :
    (∀ base : Heap, ErC2 P w K mg base c f f2 C I (PySem.W.fnOf "__init__" qn (defArgs st) (defBody st) (defScope st) .none kV dc pm an cd ct)) ∧ KBinds K (PySem.W.fnOf "__init__" qn (defArgs st) (defBody st) (defScope st) .none kV dc pm an cd ct) ["self", f, f2] [f2, f] kwG2 kwG2 := by
  have O : OexC K C := ⟨⟨_, _, _, _, _, _, _, _, _, _, _, _, _, _, _, xL, by first | rfl | decide +kernel⟩, sa, eC, tC, kC⟩
  have FI := fun_mk (st := st) lI dI kI
  exact ⟨fun base => ⟨O, ⟨ga, gg, eC, hC⟩, ⟨by unfold PySem.W.clsIn; rw [xL] <;> rfl, ga, ⟨_, gg⟩, eC, cA, gsn, gtk, mo⟩, iC, tI, nb, nb2, PySem.W.mg_of X G aC, ok FI O nb nb2, bi FI⟩, kb FI⟩

abbrev s_iBadName : Stmt := inClass (topS 2) 0
theorem sc_iBadName : FnScope ["self", "name"] ["self", "name"] (defScope s_iBadName) := ⟨rfl, rfl, rfl, by decide +kernel, rfl, by decide +kernel, by decide +kernel⟩
theorem ok_iBadName {P : Program} {w : World} {K : PySem.W.Frag} {mg : Str → Option Value} {fI : Addr} {fd : FuncData} {C : Addr} {base : Heap} (F : Fun K "__init__" "BadName.__init__" s_iBadName fI fd) (O : OexC K C) (no : PySem.W.findIn K (.ref C) "name" = some none) : FnOk P w K mg base CX0 1 fI fd ["self", "name"] (sp_init1 K C "name") := by
  refine F.ok sc_iBadName (fun vs H Q E h => ?_) (fun cdv A outer s H vs Q E hr h => ⟨_, pss_one (ps_ost (pv 0) (pv 1)), ?_⟩)
  · obtain ⟨a, y, rfl, _⟩ := h
    rfl
  · obtain ⟨a, y, rfl, ha, hQ⟩ := h
    exact ⟨y, rfl, .ref a, rfl, a, C, rfl, O, no, .inl ⟨ha, hQ⟩⟩
theorem kb_iBadName {K : PySem.W.Frag} {fI : Addr} {fd : FuncData} (F : Fun K "__init__" "BadName.__init__" s_iBadName fI fd) : KBinds K fd ["self", "name"] ["name"] kwG kwG := by
  obtain ⟨oc, od, kV, doc, pm, an, cdv, ct, osl, rfl, _, _⟩ := F.ex
  exact ⟨fun s us ws _ hl => match us, ws, hl with | [_], [_], _ => .of_eq rfl, kwG_rel⟩
abbrev s_iDuplicateName : Stmt := inClass (topS 3) 0
theorem sc_iDuplicateName : FnScope ["self", "name"] ["self", "name"] (defScope s_iDuplicateName) := ⟨rfl, rfl, rfl, by decide +kernel, rfl, by decide +kernel, by decide +kernel⟩
theorem ok_iDuplicateName {P : Program} {w : World} {K : PySem.W.Frag} {mg : Str → Option Value} {fI : Addr} {fd : FuncData} {C : Addr} {base : Heap} (F : Fun K "__init__" "DuplicateName.__init__" s_iDuplicateName fI fd) (O : OexC K C) (no : PySem.W.findIn K (.ref C) "name" = some none) : FnOk P w K mg base CX0 1 fI fd ["self", "name"] (sp_init1 K C "name") := by
  refine F.ok sc_iDuplicateName (fun vs H Q E h => ?_) (fun cdv A outer s H vs Q E hr h => ⟨_, pss_one (ps_ost (pv 0) (pv 1)), ?_⟩)
  · obtain ⟨a, y, rfl, _⟩ := h
    rfl
  · obtain ⟨a, y, rfl, ha, hQ⟩ := h
    exact ⟨y, rfl, .ref a, rfl, a, C, rfl, O, no, .inl ⟨ha, hQ⟩⟩
theorem kb_iDuplicateName {K : PySem.W.Frag} {fI : Addr} {fd : FuncData} (F : Fun K "__init__" "DuplicateName.__init__" s_iDuplicateName fI fd) : KBinds K fd ["self", "name"] ["name"] kwG kwG := by
  obtain ⟨oc, od, kV, doc, pm, an, cdv, ct, osl, rfl, _, _⟩ := F.ex
  exact ⟨fun s us ws _ hl => match us, ws, hl with | [_], [_], _ => .of_eq rfl, kwG_rel⟩
abbrev s_iUnknownName : Stmt := inClass (topS 4) 0
theorem sc_iUnknownName : FnScope ["self", "name"] ["self", "name"] (defScope s_iUnknownName) := ⟨rfl, rfl, rfl, by decide +kernel, rfl, by decide +kernel, by decide +kernel⟩
theorem ok_iUnknownName {P : Program} {w : World} {K : PySem.W.Frag} {mg : Str → Option Value} {fI : Addr} {fd : FuncData} {C : Addr} {base : Heap} (F : Fun K "__init__" "UnknownName.__init__" s_iUnknownName fI fd) (O : OexC K C) (no : PySem.W.findIn K (.ref C) "name" = some none) : FnOk P w K mg base CX0 1 fI fd ["self", "name"] (sp_init1 K C "name") := by
  refine F.ok sc_iUnknownName (fun vs H Q E h => ?_) (fun cdv A outer s H vs Q E hr h => ⟨_, pss_one (ps_ost (pv 0) (pv 1)), ?_⟩)
  · obtain ⟨a, y, rfl, _⟩ := h
    rfl
  · obtain ⟨a, y, rfl, ha, hQ⟩ := h
    exact ⟨y, rfl, .ref a, rfl, a, C, rfl, O, no, .inl ⟨ha, hQ⟩⟩
theorem kb_iUnknownName {K : PySem.W.Frag} {fI : Addr} {fd : FuncData} (F : Fun K "__init__" "UnknownName.__init__" s_iUnknownName fI fd) : KBinds K fd ["self", "name"] ["name"] kwG kwG := by
  obtain ⟨oc, od, kV, doc, pm, an, cdv, ct, osl, rfl, _, _⟩ := F.ex
  exact ⟨fun s us ws _ hl => match us, ws, hl with | [_], [_], _ => .of_eq rfl, kwG_rel⟩
abbrev s_iBadCount : Stmt := inClass (topS 5) 0
theorem sc_iBadCount : FnScope ["self", "count"] ["self", "count"] (defScope s_iBadCount) := ⟨rfl, rfl, rfl, by decide +kernel, rfl, by decide +kernel, by decide +kernel⟩
theorem ok_iBadCount {P : Program} {w : World} {K : PySem.W.Frag} {mg : Str → Option Value} {fI : Addr} {fd : FuncData} {C : Addr} {base : Heap} (F : Fun K "__init__" "BadCount.__init__" s_iBadCount fI fd) (O : OexC K C) (no : PySem.W.findIn K (.ref C) "count" = some none) : FnOk P w K mg base CX0 1 fI fd ["self", "count"] (sp_init1 K C "count") := by
  refine F.ok sc_iBadCount (fun vs H Q E h => ?_) (fun cdv A outer s H vs Q E hr h => ⟨_, pss_one (ps_ost (pv 0) (pv 1)), ?_⟩)
  · obtain ⟨a, y, rfl, _⟩ := h
    rfl
  · obtain ⟨a, y, rfl, ha, hQ⟩ := h
    exact ⟨y, rfl, .ref a, rfl, a, C, rfl, O, no, .inl ⟨ha, hQ⟩⟩
theorem kb_iBadCount {K : PySem.W.Frag} {fI : Addr} {fd : FuncData} (F : Fun K "__init__" "BadCount.__init__" s_iBadCount fI fd) : KBinds K fd ["self", "count"] ["count"] kwG kwG := by
  obtain ⟨oc, od, kV, doc, pm, an, cdv, ct, osl, rfl, _, _⟩ := F.ex
  exact ⟨fun s us ws _ hl => match us, ws, hl with | [_], [_], _ => .of_eq rfl, kwG_rel⟩
abbrev s_iBadBundle : Stmt := inClass (topS 6) 0
theorem sc_iBadBundle : FnScope ["self", "value"] ["self", "value"] (defScope s_iBadBundle) := ⟨rfl, rfl, rfl, by decide +kernel, rfl, by decide +kernel, by decide +kernel⟩
theorem ok_iBadBundle {P : Program} {w : World} {K : PySem.W.Frag} {mg : Str → Option Value} {fI : Addr} {fd : FuncData} {C : Addr} {base : Heap} (F : Fun K "__init__" "BadBundle.__init__" s_iBadBundle fI fd) (O : OexC K C) (no : PySem.W.findIn K (.ref C) "value" = some none) : FnOk P w K mg base CX0 1 fI fd ["self", "value"] (sp_init1 K C "value") := by
  refine F.ok sc_iBadBundle (fun vs H Q E h => ?_) (fun cdv A outer s H vs Q E hr h => ⟨_, pss_one (ps_ost (pv 0) (pv 1)), ?_⟩)
  · obtain ⟨a, y, rfl, _⟩ := h
    rfl
  · obtain ⟨a, y, rfl, ha, hQ⟩ := h
    exact ⟨y, rfl, .ref a, rfl, a, C, rfl, O, no, .inl ⟨ha, hQ⟩⟩
theorem kb_iBadBundle {K : PySem.W.Frag} {fI : Addr} {fd : FuncData} (F : Fun K "__init__" "BadBundle.__init__" s_iBadBundle fI fd) : KBinds K fd ["self", "value"] ["value"] kwG kwG := by
  obtain ⟨oc, od, kV, doc, pm, an, cdv, ct, osl, rfl, _, _⟩ := F.ex
  exact ⟨fun s us ws _ hl => match us, ws, hl with | [_], [_], _ => .of_eq rfl, kwG_rel⟩
abbrev s_iBadWorth : Stmt := inClass (topS 7) 0
theorem sc_iBadWorth : FnScope ["self", "worth"] ["self", "worth"] (defScope s_iBadWorth) := ⟨rfl, rfl, rfl, by decide +kernel, rfl, by decide +kernel, by decide +kernel⟩
theorem ok_iBadWorth {P : Program} {w : World} {K : PySem.W.Frag} {mg : Str → Option Value} {fI : Addr} {fd : FuncData} {C : Addr} {base : Heap} (F : Fun K "__init__" "BadWorth.__init__" s_iBadWorth fI fd) (O : OexC K C) (no : PySem.W.findIn K (.ref C) "worth" = some none) : FnOk P w K mg base CX0 1 fI fd ["self", "worth"] (sp_init1 K C "worth") := by
  refine F.ok sc_iBadWorth (fun vs H Q E h => ?_) (fun cdv A outer s H vs Q E hr h => ⟨_, pss_one (ps_ost (pv 0) (pv 1)), ?_⟩)
  · obtain ⟨a, y, rfl, _⟩ := h
    rfl
  · obtain ⟨a, y, rfl, ha, hQ⟩ := h
    exact ⟨y, rfl, .ref a, rfl, a, C, rfl, O, no, .inl ⟨ha, hQ⟩⟩
theorem kb_iBadWorth {K : PySem.W.Frag} {fI : Addr} {fd : FuncData} (F : Fun K "__init__" "BadWorth.__init__" s_iBadWorth fI fd) : KBinds K fd ["self", "worth"] ["worth"] kwG kwG := by
  obtain ⟨oc, od, kV, doc, pm, an, cdv, ct, osl, rfl, _, _⟩ := F.ex
  exact ⟨fun s us ws _ hl => match us, ws, hl with | [_], [_], _ => .of_eq rfl, kwG_rel⟩
abbrev s_iNotRising : Stmt := inClass (topS 8) 0
theorem sc_iNotRising : FnScope ["self", "value", "name"] ["self", "value", "name"] (defScope s_iNotRising) := ⟨rfl, rfl, rfl, by decide +kernel, rfl, by decide +kernel, by decide +kernel⟩
theorem ok_iNotRising {P : Program} {w : World} {K : PySem.W.Frag} {mg : Str → Option Value} {fI : Addr} {fd : FuncData} {C : Addr} {base : Heap} (F : Fun K "__init__" "NotRising.__init__" s_iNotRising fI fd) (O : OexC K C) (no : PySem.W.findIn K (.ref C) "value" = some none) (no2 : PySem.W.findIn K (.ref C) "name" = some none) : FnOk P w K mg base CX0 1 fI fd ["self", "value", "name"] (sp_init2 K C "value" "name") := by
  refine F.ok sc_iNotRising (fun vs H Q E h => ?_) (fun cdv A outer s H vs Q E hr h => ⟨_, pss_cons (ps_ost (pv 0) (pv 1)) (pss_one (ps_ost (pv 0) (pv 2))), ?_⟩)
  · obtain ⟨a, y, z, rfl, _⟩ := h
    rfl
  · obtain ⟨a, y, z, rfl, ha, hQ⟩ := h
    exact ⟨y, rfl, .ref a, rfl, a, C, rfl, O, no, .inl ⟨ha, fun dx nd ne => ⟨z, rfl, .ref a, rfl, a, C, rfl, O, no2, .inr ⟨dx, _, upd_same, (upd_ne ne).trans upd_same, by show 1 ≤ 900; decide, hQ dx nd ne⟩⟩⟩⟩
theorem kb_iNotRising {K : PySem.W.Frag} {fI : Addr} {fd : FuncData} (F : Fun K "__init__" "NotRising.__init__" s_iNotRising fI fd) : KBinds K fd ["self", "value", "name"] ["name", "value"] kwG2 kwG2 := by
  obtain ⟨oc, od, kV, doc, pm, an, cdv, ct, osl, rfl, _, _⟩ := F.ex
  exact ⟨fun s us ws _ hl => match us, ws, hl with | [_], [_, _], _ => .of_eq rfl, kwG2_rel⟩
abbrev s_iBadText : Stmt := inClass (topS 9) 0
theorem sc_iBadText : FnScope ["self", "text"] ["self", "text"] (defScope s_iBadText) := ⟨rfl, rfl, rfl, by decide +kernel, rfl, by decide +kernel, by decide +kernel⟩
theorem ok_iBadText {P : Program} {w : World} {K : PySem.W.Frag} {mg : Str → Option Value} {fI : Addr} {fd : FuncData} {C : Addr} {base : Heap} (F : Fun K "__init__" "BadText.__init__" s_iBadText fI fd) (O : OexC K C) (no : PySem.W.findIn K (.ref C) "text" = some none) : FnOk P w K mg base CX0 1 fI fd ["self", "text"] (sp_init1 K C "text") := by
  refine F.ok sc_iBadText (fun vs H Q E h => ?_) (fun cdv A outer s H vs Q E hr h => ⟨_, pss_one (ps_ost (pv 0) (pv 1)), ?_⟩)
  · obtain ⟨a, y, rfl, _⟩ := h
    rfl
  · obtain ⟨a, y, rfl, ha, hQ⟩ := h
    exact ⟨y, rfl, .ref a, rfl, a, C, rfl, O, no, .inl ⟨ha, hQ⟩⟩
theorem kb_iBadText {K : PySem.W.Frag} {fI : Addr} {fd : FuncData} (F : Fun K "__init__" "BadText.__init__" s_iBadText fI fd) : KBinds K fd ["self", "text"] ["text"] kwG kwG := by
  obtain ⟨oc, od, kV, doc, pm, an, cdv, ct, osl, rfl, _, _⟩ := F.ex
  exact ⟨fun s us ws _ hl => match us, ws, hl with | [_], [_], _ => .of_eq rfl, kwG_rel⟩
abbrev s_iBadPrice : Stmt := inClass (topS 10) 0
theorem sc_iBadPrice : FnScope ["self", "price"] ["self", "price"] (defScope s_iBadPrice) := ⟨rfl, rfl, rfl, by decide +kernel, rfl, by decide +kernel, by decide +kernel⟩
theorem ok_iBadPrice {P : Program} {w : World} {K : PySem.W.Frag} {mg : Str → Option Value} {fI : Addr} {fd : FuncData} {C : Addr} {base : Heap} (F : Fun K "__init__" "BadPrice.__init__" s_iBadPrice fI fd) (O : OexC K C) (no : PySem.W.findIn K (.ref C) "price" = some none) : FnOk P w K mg base CX0 1 fI fd ["self", "price"] (sp_init1 K C "price") := by
  refine F.ok sc_iBadPrice (fun vs H Q E h => ?_) (fun cdv A outer s H vs Q E hr h => ⟨_, pss_one (ps_ost (pv 0) (pv 1)), ?_⟩)
  · obtain ⟨a, y, rfl, _⟩ := h
    rfl
  · obtain ⟨a, y, rfl, ha, hQ⟩ := h
    exact ⟨y, rfl, .ref a, rfl, a, C, rfl, O, no, .inl ⟨ha, hQ⟩⟩
theorem kb_iBadPrice {K : PySem.W.Frag} {fI : Addr} {fd : FuncData} (F : Fun K "__init__" "BadPrice.__init__" s_iBadPrice fI fd) : KBinds K fd ["self", "price"] ["price"] kwG kwG := by
  obtain ⟨oc, od, kV, doc, pm, an, cdv, ct, osl, rfl, _, _⟩ := F.ex
  exact ⟨fun s us ws _ hl => match us, ws, hl with | [_], [_], _ => .of_eq rfl, kwG_rel⟩
abbrev s_iBadUnit : Stmt := inClass (topS 11) 0
theorem sc_iBadUnit : FnScope ["self", "value"] ["self", "value"] (defScope s_iBadUnit) := ⟨rfl, rfl, rfl, by decide +kernel, rfl, by decide +kernel, by decide +kernel⟩
theorem ok_iBadUnit {P : Program} {w : World} {K : PySem.W.Frag} {mg : Str → Option Value} {fI : Addr} {fd : FuncData} {C : Addr} {base : Heap} (F : Fun K "__init__" "BadUnit.__init__" s_iBadUnit fI fd) (O : OexC K C) (no : PySem.W.findIn K (.ref C) "value" = some none) : FnOk P w K mg base CX0 1 fI fd ["self", "value"] (sp_init1 K C "value") := by
  refine F.ok sc_iBadUnit (fun vs H Q E h => ?_) (fun cdv A outer s H vs Q E hr h => ⟨_, pss_one (ps_ost (pv 0) (pv 1)), ?_⟩)
  · obtain ⟨a, y, rfl, _⟩ := h
    rfl
  · obtain ⟨a, y, rfl, ha, hQ⟩ := h
    exact ⟨y, rfl, .ref a, rfl, a, C, rfl, O, no, .inl ⟨ha, hQ⟩⟩
theorem kb_iBadUnit {K : PySem.W.Frag} {fI : Addr} {fd : FuncData} (F : Fun K "__init__" "BadUnit.__init__" s_iBadUnit fI fd) : KBinds K fd ["self", "value"] ["value"] kwG kwG := by
  obtain ⟨oc, od, kV, doc, pm, an, cdv, ct, osl, rfl, _, _⟩ := F.ex
  exact ⟨fun s us ws _ hl => match us, ws, hl with | [_], [_], _ => .of_eq rfl, kwG_rel⟩
abbrev s_iBadFactor : Stmt := inClass (topS 12) 0
theorem sc_iBadFactor : FnScope ["self", "value"] ["self", "value"] (defScope s_iBadFactor) := ⟨rfl, rfl, rfl, by decide +kernel, rfl, by decide +kernel, by decide +kernel⟩
theorem ok_iBadFactor {P : Program} {w : World} {K : PySem.W.Frag} {mg : Str → Option Value} {fI : Addr} {fd : FuncData} {C : Addr} {base : Heap} (F : Fun K "__init__" "BadFactor.__init__" s_iBadFactor fI fd) (O : OexC K C) (no : PySem.W.findIn K (.ref C) "value" = some none) : FnOk P w K mg base CX0 1 fI fd ["self", "value"] (sp_init1 K C "value") := by
  refine F.ok sc_iBadFactor (fun vs H Q E h => ?_) (fun cdv A outer s H vs Q E hr h => ⟨_, pss_one (ps_ost (pv 0) (pv 1)), ?_⟩)
  · obtain ⟨a, y, rfl, _⟩ := h
    rfl
  · obtain ⟨a, y, rfl, ha, hQ⟩ := h
    exact ⟨y, rfl, .ref a, rfl, a, C, rfl, O, no, .inl ⟨ha, hQ⟩⟩
theorem kb_iBadFactor {K : PySem.W.Frag} {fI : Addr} {fd : FuncData} (F : Fun K "__init__" "BadFactor.__init__" s_iBadFactor fI fd) : KBinds K fd ["self", "value"] ["value"] kwG kwG := by
  obtain ⟨oc, od, kV, doc, pm, an, cdv, ct, osl, rfl, _, _⟩ := F.ex
  exact ⟨fun s us ws _ hl => match us, ws, hl with | [_], [_], _ => .of_eq rfl, kwG_rel⟩
abbrev s_iUnlikeGoods : Stmt := inClass (topS 13) 0
theorem sc_iUnlikeGoods : FnScope ["self", "names"] ["self", "names"] (defScope s_iUnlikeGoods) := ⟨rfl, rfl, rfl, by decide +kernel, rfl, by decide +kernel, by decide +kernel⟩
theorem ok_iUnlikeGoods {P : Program} {w : World} {K : PySem.W.Frag} {mg : Str → Option Value} {fI : Addr} {fd : FuncData} {C : Addr} {base : Heap} (F : Fun K "__init__" "UnlikeGoods.__init__" s_iUnlikeGoods fI fd) (O : OexC K C) (no : PySem.W.findIn K (.ref C) "names" = some none) : FnOk P w K mg base CX0 1 fI fd ["self", "names"] (sp_init1 K C "names") := by
  refine F.ok sc_iUnlikeGoods (fun vs H Q E h => ?_) (fun cdv A outer s H vs Q E hr h => ⟨_, pss_one (ps_ost (pv 0) (pv 1)), ?_⟩)
  · obtain ⟨a, y, rfl, _⟩ := h
    rfl
  · obtain ⟨a, y, rfl, ha, hQ⟩ := h
    exact ⟨y, rfl, .ref a, rfl, a, C, rfl, O, no, .inl ⟨ha, hQ⟩⟩
theorem kb_iUnlikeGoods {K : PySem.W.Frag} {fI : Addr} {fd : FuncData} (F : Fun K "__init__" "UnlikeGoods.__init__" s_iUnlikeGoods fI fd) : KBinds K fd ["self", "names"] ["names"] kwG kwG := by
  obtain ⟨oc, od, kV, doc, pm, an, cdv, ct, osl, rfl, _, _⟩ := F.ex
  exact ⟨fun s us ws _ hl => match us, ws, hl with | [_], [_], _ => .of_eq rfl, kwG_rel⟩
abbrev s_iNotWanted : Stmt := inClass (topS 14) 0
theorem sc_iNotWanted : FnScope ["self", "value"] ["self", "value"] (defScope s_iNotWanted) := ⟨rfl, rfl, rfl, by decide +kernel, rfl, by decide +kernel, by decide +kernel⟩
theorem ok_iNotWanted {P : Program} {w : World} {K : PySem.W.Frag} {mg : Str → Option Value} {fI : Addr} {fd : FuncData} {C : Addr} {base : Heap} (F : Fun K "__init__" "NotWanted.__init__" s_iNotWanted fI fd) (O : OexC K C) (no : PySem.W.findIn K (.ref C) "value" = some none) : FnOk P w K mg base CX0 1 fI fd ["self", "value"] (sp_init1 K C "value") := by
  refine F.ok sc_iNotWanted (fun vs H Q E h => ?_) (fun cdv A outer s H vs Q E hr h => ⟨_, pss_one (ps_ost (pv 0) (pv 1)), ?_⟩)
  · obtain ⟨a, y, rfl, _⟩ := h
    rfl
  · obtain ⟨a, y, rfl, ha, hQ⟩ := h
    exact ⟨y, rfl, .ref a, rfl, a, C, rfl, O, no, .inl ⟨ha, hQ⟩⟩
theorem kb_iNotWanted {K : PySem.W.Frag} {fI : Addr} {fd : FuncData} (F : Fun K "__init__" "NotWanted.__init__" s_iNotWanted fI fd) : KBinds K fd ["self", "value"] ["value"] kwG kwG := by
  obtain ⟨oc, od, kV, doc, pm, an, cdv, ct, osl, rfl, _, _⟩ := F.ex
  exact ⟨fun s us ws _ hl => match us, ws, hl with | [_], [_], _ => .of_eq rfl, kwG_rel⟩
abbrev s_iNotHigher : Stmt := inClass (topS 15) 0
theorem sc_iNotHigher : FnScope ["self", "name"] ["self", "name"] (defScope s_iNotHigher) := ⟨rfl, rfl, rfl, by decide +kernel, rfl, by decide +kernel, by decide +kernel⟩
theorem ok_iNotHigher {P : Program} {w : World} {K : PySem.W.Frag} {mg : Str → Option Value} {fI : Addr} {fd : FuncData} {C : Addr} {base : Heap} (F : Fun K "__init__" "NotHigher.__init__" s_iNotHigher fI fd) (O : OexC K C) (no : PySem.W.findIn K (.ref C) "name" = some none) : FnOk P w K mg base CX0 1 fI fd ["self", "name"] (sp_init1 K C "name") := by
  refine F.ok sc_iNotHigher (fun vs H Q E h => ?_) (fun cdv A outer s H vs Q E hr h => ⟨_, pss_one (ps_ost (pv 0) (pv 1)), ?_⟩)
  · obtain ⟨a, y, rfl, _⟩ := h
    rfl
  · obtain ⟨a, y, rfl, ha, hQ⟩ := h
    exact ⟨y, rfl, .ref a, rfl, a, C, rfl, O, no, .inl ⟨ha, hQ⟩⟩
theorem kb_iNotHigher {K : PySem.W.Frag} {fI : Addr} {fd : FuncData} (F : Fun K "__init__" "NotHigher.__init__" s_iNotHigher fI fd) : KBinds K fd ["self", "name"] ["name"] kwG kwG := by
  obtain ⟨oc, od, kV, doc, pm, an, cdv, ct, osl, rfl, _, _⟩ := F.ex
  exact ⟨fun s us ws _ hl => match us, ws, hl with | [_], [_], _ => .of_eq rfl, kwG_rel⟩
abbrev s_iNotNested : Stmt := inClass (topS 16) 0
theorem sc_iNotNested : FnScope ["self", "value"] ["self", "value"] (defScope s_iNotNested) := ⟨rfl, rfl, rfl, by decide +kernel, rfl, by decide +kernel, by decide +kernel⟩
theorem ok_iNotNested {P : Program} {w : World} {K : PySem.W.Frag} {mg : Str → Option Value} {fI : Addr} {fd : FuncData} {C : Addr} {base : Heap} (F : Fun K "__init__" "NotNested.__init__" s_iNotNested fI fd) (O : OexC K C) (no : PySem.W.findIn K (.ref C) "value" = some none) : FnOk P w K mg base CX0 1 fI fd ["self", "value"] (sp_init1 K C "value") := by
  refine F.ok sc_iNotNested (fun vs H Q E h => ?_) (fun cdv A outer s H vs Q E hr h => ⟨_, pss_one (ps_ost (pv 0) (pv 1)), ?_⟩)
  · obtain ⟨a, y, rfl, _⟩ := h
    rfl
  · obtain ⟨a, y, rfl, ha, hQ⟩ := h
    exact ⟨y, rfl, .ref a, rfl, a, C, rfl, O, no, .inl ⟨ha, hQ⟩⟩
theorem kb_iNotNested {K : PySem.W.Frag} {fI : Addr} {fd : FuncData} (F : Fun K "__init__" "NotNested.__init__" s_iNotNested fI fd) : KBinds K fd ["self", "value"] ["value"] kwG kwG := by
  obtain ⟨oc, od, kV, doc, pm, an, cdv, ct, osl, rfl, _, _⟩ := F.ex
  exact ⟨fun s us ws _ hl => match us, ws, hl with | [_], [_], _ => .of_eq rfl, kwG_rel⟩
abbrev s_iBadSteps : Stmt := inClass (topS 17) 0
theorem sc_iBadSteps : FnScope ["self", "steps"] ["self", "steps"] (defScope s_iBadSteps) := ⟨rfl, rfl, rfl, by decide +kernel, rfl, by decide +kernel, by decide +kernel⟩
theorem ok_iBadSteps {P : Program} {w : World} {K : PySem.W.Frag} {mg : Str → Option Value} {fI : Addr} {fd : FuncData} {C : Addr} {base : Heap} (F : Fun K "__init__" "BadSteps.__init__" s_iBadSteps fI fd) (O : OexC K C) (no : PySem.W.findIn K (.ref C) "steps" = some none) : FnOk P w K mg base CX0 1 fI fd ["self", "steps"] (sp_init1 K C "steps") := by
  refine F.ok sc_iBadSteps (fun vs H Q E h => ?_) (fun cdv A outer s H vs Q E hr h => ⟨_, pss_one (ps_ost (pv 0) (pv 1)), ?_⟩)
  · obtain ⟨a, y, rfl, _⟩ := h
    rfl
  · obtain ⟨a, y, rfl, ha, hQ⟩ := h
    exact ⟨y, rfl, .ref a, rfl, a, C, rfl, O, no, .inl ⟨ha, hQ⟩⟩
theorem kb_iBadSteps {K : PySem.W.Frag} {fI : Addr} {fd : FuncData} (F : Fun K "__init__" "BadSteps.__init__" s_iBadSteps fI fd) : KBinds K fd ["self", "steps"] ["steps"] kwG kwG := by
  obtain ⟨oc, od, kV, doc, pm, an, cdv, ct, osl, rfl, _, _⟩ := F.ex
  exact ⟨fun s us ws _ hl => match us, ws, hl with | [_], [_], _ => .of_eq rfl, kwG_rel⟩
abbrev s_iBadSharing : Stmt := inClass (topS 18) 0
theorem sc_iBadSharing : FnScope ["self", "sharing"] ["self", "sharing"] (defScope s_iBadSharing) := ⟨rfl, rfl, rfl, by decide +kernel, rfl, by decide +kernel, by decide +kernel⟩
theorem ok_iBadSharing {P : Program} {w : World} {K : PySem.W.Frag} {mg : Str → Option Value} {fI : Addr} {fd : FuncData} {C : Addr} {base : Heap} (F : Fun K "__init__" "BadSharing.__init__" s_iBadSharing fI fd) (O : OexC K C) (no : PySem.W.findIn K (.ref C) "sharing" = some none) : FnOk P w K mg base CX0 1 fI fd ["self", "sharing"] (sp_init1 K C "sharing") := by
  refine F.ok sc_iBadSharing (fun vs H Q E h => ?_) (fun cdv A outer s H vs Q E hr h => ⟨_, pss_one (ps_ost (pv 0) (pv 1)), ?_⟩)
  · obtain ⟨a, y, rfl, _⟩ := h
    rfl
  · obtain ⟨a, y, rfl, ha, hQ⟩ := h
    exact ⟨y, rfl, .ref a, rfl, a, C, rfl, O, no, .inl ⟨ha, hQ⟩⟩
theorem kb_iBadSharing {K : PySem.W.Frag} {fI : Addr} {fd : FuncData} (F : Fun K "__init__" "BadSharing.__init__" s_iBadSharing fI fd) : KBinds K fd ["self", "sharing"] ["sharing"] kwG kwG := by
  obtain ⟨oc, od, kV, doc, pm, an, cdv, ct, osl, rfl, _, _⟩ := F.ex
  exact ⟨fun s us ws _ hl => match us, ws, hl with | [_], [_], _ => .of_eq rfl, kwG_rel⟩
abbrev s_iBadBound : Stmt := inClass (topS 19) 0
theorem sc_iBadBound : FnScope ["self", "bound"] ["self", "bound"] (defScope s_iBadBound) := ⟨rfl, rfl, rfl, by decide +kernel, rfl, by decide +kernel, by decide +kernel⟩
theorem ok_iBadBound {P : Program} {w : World} {K : PySem.W.Frag} {mg : Str → Option Value} {fI : Addr} {fd : FuncData} {C : Addr} {base : Heap} (F : Fun K "__init__" "BadBound.__init__" s_iBadBound fI fd) (O : OexC K C) (no : PySem.W.findIn K (.ref C) "bound" = some none) : FnOk P w K mg base CX0 1 fI fd ["self", "bound"] (sp_init1 K C "bound") := by
  refine F.ok sc_iBadBound (fun vs H Q E h => ?_) (fun cdv A outer s H vs Q E hr h => ⟨_, pss_one (ps_ost (pv 0) (pv 1)), ?_⟩)
  · obtain ⟨a, y, rfl, _⟩ := h
    rfl
  · obtain ⟨a, y, rfl, ha, hQ⟩ := h
    exact ⟨y, rfl, .ref a, rfl, a, C, rfl, O, no, .inl ⟨ha, hQ⟩⟩
theorem kb_iBadBound {K : PySem.W.Frag} {fI : Addr} {fd : FuncData} (F : Fun K "__init__" "BadBound.__init__" s_iBadBound fI fd) : KBinds K fd ["self", "bound"] ["bound"] kwG kwG := by
  obtain ⟨oc, od, kV, doc, pm, an, cdv, ct, osl, rfl, _, _⟩ := F.ex
  exact ⟨fun s us ws _ hl => match us, ws, hl with | [_], [_], _ => .of_eq rfl, kwG_rel⟩
/-- isinstance of one class, by all of them -/
def KRow (K : PySem.W.Frag) (D : Addr) : List (Addr × Bool) → Prop
  | [] => True
  | p :: r => PySem.W.kitOne K (.ref D) (.ref p.1) = some p.2 ∧ KRow K D r
theorem KRow.at {K : PySem.W.Frag} {D : Addr} : ∀ {l : List (Addr × Bool)} {j : Nat} {p : Addr × Bool}, KRow K D l → l[j]? = some p → PySem.W.kitOne K (.ref D) (.ref p.1) = some p.2
  | [], _, _, _, e => by simp at e
  | _ :: _, 0, _, h, e => by
    simp at e
    rw [← e]
    exact h.1
  | _ :: r, j + 1, p, h, e => KRow.at (l := r) (j := j) h.2 (by simpa using e)
theorem krow_one {K : PySem.W.Frag} {D : Addr} {cs : List Addr} {k : Nat} {l : List (Addr × Bool)} (h : KRow K D l) (e : l = cs.zip ((List.range 20).map fun j => decide (j = k))) (h20 : cs.length = 20) : ∀ j, j < 20 → PySem.W.kitOne K (.ref D) (.ref (cs.getD j 0)) = some (decide (j = k)) := fun j hj => by
  subst e
  have h1 : cs[j]? = some (cs.getD j 0) := by
    rw [List.getD_eq_getElem?_getD, List.getElem?_eq_getElem (by omega : j < cs.length)]
    rfl
  have h2 : ((List.range 20).map fun j => decide (j = k))[j]? = some (decide (j = k)) := by
    rw [List.getElem?_map, List.getElem?_range hj]
    rfl
  exact h.at (j := j) (p := (cs.getD j 0, decide (j = k))) (by rw [List.getElem?_zip_eq_some]; exact ⟨h1, h2⟩)
end Lw

namespace Lw
open PySem PySem.Spec PyProof.Rows L2

theorem all_mk {l : PySem.W.OpenLaw} {w : World} {K : PySem.W.Frag} {h : Heap} {mg : Str → Option Value} {CE C0 C1 C2 C3 C4 C5 C6 C7 C8 C9 C10 C11 C12 C13 C14 C15 C16 C17 C18 C19 : Addr} {I0 I1 I2 I3 I4 I5 I6 I7 I8 I9 I10 I11 I12 I13 I14 I15 I16 I17 : Addr} {fd0 fd1 fd2 fd3 fd4 fd5 fd6 fd7 fd8 fd9 fd10 fd11 fd12 fd13 fd14 fd15 fd16 fd17 : FuncData}
    {od100 an100 : Option Addr} {sl100 : Array (Option Value)} {oc100 kV100 dc100 pm100 cd100 ct100 : Value}
    {f0 : Addr}
    {od101 an101 : Option Addr} {sl101 : Array (Option Value)} {oc101 kV101 dc101 pm101 cd101 ct101 : Value}
    {f1 : Addr}
    {od102 an102 : Option Addr} {sl102 : Array (Option Value)} {oc102 kV102 dc102 pm102 cd102 ct102 : Value}
    {f2 : Addr}
    {od103 an103 : Option Addr} {sl103 : Array (Option Value)} {oc103 kV103 dc103 pm103 cd103 ct103 : Value}
    {f3 : Addr}
    {od104 an104 : Option Addr} {sl104 : Array (Option Value)} {oc104 kV104 dc104 pm104 cd104 ct104 : Value}
    {f4 : Addr}
    {od105 an105 : Option Addr} {sl105 : Array (Option Value)} {oc105 kV105 dc105 pm105 cd105 ct105 : Value}
    {f5 : Addr}
    {od106 an106 : Option Addr} {sl106 : Array (Option Value)} {oc106 kV106 dc106 pm106 cd106 ct106 : Value}
    {f6 : Addr}
    {od107 an107 : Option Addr} {sl107 : Array (Option Value)} {oc107 kV107 dc107 pm107 cd107 ct107 : Value}
    {f7 : Addr}
    {od108 an108 : Option Addr} {sl108 : Array (Option Value)} {oc108 kV108 dc108 pm108 cd108 ct108 : Value}
    {fa f8 : Addr} (X : K.In h) (G : h.Ns mainGlobals mg) (hfa : mg "law" = some (.ref fa))
    (E0 : ∀ base : Heap, ErC l.prog w K mg base "BadName" "name" C0 I0 fd0) (kb0 : KBinds K fd0 ["self", "name"] ["name"] kwG kwG)
    (E1 : ∀ base : Heap, ErC l.prog w K mg base "DuplicateName" "name" C1 I1 fd1) (kb1 : KBinds K fd1 ["self", "name"] ["name"] kwG kwG)
    (E2 : ∀ base : Heap, ErC l.prog w K mg base "UnknownName" "name" C2 I2 fd2) (kb2 : KBinds K fd2 ["self", "name"] ["name"] kwG kwG)
    (E3 : ∀ base : Heap, ErC l.prog w K mg base "BadCount" "count" C3 I3 fd3) (kb3 : KBinds K fd3 ["self", "count"] ["count"] kwG kwG)
    (E4 : ∀ base : Heap, ErC l.prog w K mg base "BadBundle" "value" C4 I4 fd4) (kb4 : KBinds K fd4 ["self", "value"] ["value"] kwG kwG)
    (E5 : ∀ base : Heap, ErC l.prog w K mg base "BadWorth" "worth" C5 I5 fd5) (kb5 : KBinds K fd5 ["self", "worth"] ["worth"] kwG kwG)
    (E6 : ∀ base : Heap, ErC2 l.prog w K mg base "NotRising" "value" "name" C6 I6 fd6) (kb6 : KBinds K fd6 ["self", "value", "name"] ["name", "value"] kwG2 kwG2)
    (E7 : ∀ base : Heap, ErC l.prog w K mg base "BadText" "text" C7 I7 fd7) (kb7 : KBinds K fd7 ["self", "text"] ["text"] kwG kwG)
    (E8 : ∀ base : Heap, ErC l.prog w K mg base "BadPrice" "price" C8 I8 fd8) (kb8 : KBinds K fd8 ["self", "price"] ["price"] kwG kwG)
    (E9 : ∀ base : Heap, ErC l.prog w K mg base "BadUnit" "value" C9 I9 fd9) (kb9 : KBinds K fd9 ["self", "value"] ["value"] kwG kwG)
    (E10 : ∀ base : Heap, ErC l.prog w K mg base "BadFactor" "value" C10 I10 fd10) (kb10 : KBinds K fd10 ["self", "value"] ["value"] kwG kwG)
    (E11 : ∀ base : Heap, ErC l.prog w K mg base "UnlikeGoods" "names" C11 I11 fd11) (kb11 : KBinds K fd11 ["self", "names"] ["names"] kwG kwG)
    (E12 : ∀ base : Heap, ErC l.prog w K mg base "NotWanted" "value" C12 I12 fd12) (kb12 : KBinds K fd12 ["self", "value"] ["value"] kwG kwG)
    (E13 : ∀ base : Heap, ErC l.prog w K mg base "NotHigher" "name" C13 I13 fd13) (kb13 : KBinds K fd13 ["self", "name"] ["name"] kwG kwG)
    (E14 : ∀ base : Heap, ErC l.prog w K mg base "NotNested" "value" C14 I14 fd14) (kb14 : KBinds K fd14 ["self", "value"] ["value"] kwG kwG)
    (E15 : ∀ base : Heap, ErC l.prog w K mg base "BadSteps" "steps" C15 I15 fd15) (kb15 : KBinds K fd15 ["self", "steps"] ["steps"] kwG kwG)
    (E16 : ∀ base : Heap, ErC l.prog w K mg base "BadSharing" "sharing" C16 I16 fd16) (kb16 : KBinds K fd16 ["self", "sharing"] ["sharing"] kwG kwG)
    (E17 : ∀ base : Heap, ErC l.prog w K mg base "BadBound" "bound" C17 I17 fd17) (kb17 : KBinds K fd17 ["self", "bound"] ["bound"] kwG kwG)
    (aIsSubstitutes : PySem.W.nsIn K mainGlobals "IsSubstitutes" = some (some (.ref C18))) (x18 : PySem.W.excIn K C18 [.type "ValueError", .type "Exception", .type "BaseException", .type "object"] "ValueError.__new__" = true) (k18 : PySem.W.keepIn K (.ref C18) = true) (cl18 : (PySem.W.clsIn K C18).isSome = true) (ga18 : PySem.W.findIn K (.ref C18) "__getattribute__" = some (some (.builtin "BaseException.__getattribute__"))) (gg18 : PySem.W.findIn K (.ref C18) "__getattr__" = some none) (eC18 : PySem.W.subIn K (.ref C18) (.type "BaseException") = some true) (cA18 : PySem.W.findIn K (.ref C18) "__class__" = some (some (.builtin "object.__class__"))) (mo18 : PySem.W.mroIn K C18 (.type "object") = some true)
    (aNothingToUndo : PySem.W.nsIn K mainGlobals "NothingToUndo" = some (some (.ref C19))) (x19 : PySem.W.excIn K C19 [.type "ValueError", .type "Exception", .type "BaseException", .type "object"] "ValueError.__new__" = true) (k19 : PySem.W.keepIn K (.ref C19) = true) (cl19 : (PySem.W.clsIn K C19).isSome = true) (ga19 : PySem.W.findIn K (.ref C19) "__getattribute__" = some (some (.builtin "BaseException.__getattribute__"))) (gg19 : PySem.W.findIn K (.ref C19) "__getattr__" = some none) (eC19 : PySem.W.subIn K (.ref C19) (.type "BaseException") = some true) (cA19 : PySem.W.findIn K (.ref C19) "__class__" = some (some (.builtin "object.__class__"))) (mo19 : PySem.W.mroIn K C19 (.type "object") = some true)
    (gsn : PySem.W.specialIn K (.builtin "object.__class__") "__get__" = some (some (.builtin "getset_descriptor.__get__"))) (gtk : PySem.W.takesIn K (.builtin "object.__class__") = some true) (aCE : PySem.W.nsIn K mainGlobals "BundleError" = some (some (.ref CE)))
    (r0 : KRow K C0 [(C0, true), (C1, false), (C2, false), (C3, false), (C4, false), (C5, false), (C6, false), (C7, false), (C8, false), (C9, false), (C10, false), (C11, false), (C12, false), (C13, false), (C14, false), (C15, false), (C16, false), (C17, false), (C18, false), (C19, false)]) (be0 : PySem.W.kitOne K (.ref C0) (.ref CE) = some true) (ve0 : PySem.W.kitOne K (.ref C0) (.type "ValueError") = some true)
    (r1 : KRow K C1 [(C0, false), (C1, true), (C2, false), (C3, false), (C4, false), (C5, false), (C6, false), (C7, false), (C8, false), (C9, false), (C10, false), (C11, false), (C12, false), (C13, false), (C14, false), (C15, false), (C16, false), (C17, false), (C18, false), (C19, false)]) (be1 : PySem.W.kitOne K (.ref C1) (.ref CE) = some true) (ve1 : PySem.W.kitOne K (.ref C1) (.type "ValueError") = some true)
    (r2 : KRow K C2 [(C0, false), (C1, false), (C2, true), (C3, false), (C4, false), (C5, false), (C6, false), (C7, false), (C8, false), (C9, false), (C10, false), (C11, false), (C12, false), (C13, false), (C14, false), (C15, false), (C16, false), (C17, false), (C18, false), (C19, false)]) (be2 : PySem.W.kitOne K (.ref C2) (.ref CE) = some true) (ve2 : PySem.W.kitOne K (.ref C2) (.type "ValueError") = some true)
    (r3 : KRow K C3 [(C0, false), (C1, false), (C2, false), (C3, true), (C4, false), (C5, false), (C6, false), (C7, false), (C8, false), (C9, false), (C10, false), (C11, false), (C12, false), (C13, false), (C14, false), (C15, false), (C16, false), (C17, false), (C18, false), (C19, false)]) (be3 : PySem.W.kitOne K (.ref C3) (.ref CE) = some true) (ve3 : PySem.W.kitOne K (.ref C3) (.type "ValueError") = some true)
    (r4 : KRow K C4 [(C0, false), (C1, false), (C2, false), (C3, false), (C4, true), (C5, false), (C6, false), (C7, false), (C8, false), (C9, false), (C10, false), (C11, false), (C12, false), (C13, false), (C14, false), (C15, false), (C16, false), (C17, false), (C18, false), (C19, false)]) (be4 : PySem.W.kitOne K (.ref C4) (.ref CE) = some true) (ve4 : PySem.W.kitOne K (.ref C4) (.type "ValueError") = some true)
    (r5 : KRow K C5 [(C0, false), (C1, false), (C2, false), (C3, false), (C4, false), (C5, true), (C6, false), (C7, false), (C8, false), (C9, false), (C10, false), (C11, false), (C12, false), (C13, false), (C14, false), (C15, false), (C16, false), (C17, false), (C18, false), (C19, false)]) (be5 : PySem.W.kitOne K (.ref C5) (.ref CE) = some true) (ve5 : PySem.W.kitOne K (.ref C5) (.type "ValueError") = some true)
    (r6 : KRow K C6 [(C0, false), (C1, false), (C2, false), (C3, false), (C4, false), (C5, false), (C6, true), (C7, false), (C8, false), (C9, false), (C10, false), (C11, false), (C12, false), (C13, false), (C14, false), (C15, false), (C16, false), (C17, false), (C18, false), (C19, false)]) (be6 : PySem.W.kitOne K (.ref C6) (.ref CE) = some true) (ve6 : PySem.W.kitOne K (.ref C6) (.type "ValueError") = some true)
    (r7 : KRow K C7 [(C0, false), (C1, false), (C2, false), (C3, false), (C4, false), (C5, false), (C6, false), (C7, true), (C8, false), (C9, false), (C10, false), (C11, false), (C12, false), (C13, false), (C14, false), (C15, false), (C16, false), (C17, false), (C18, false), (C19, false)]) (be7 : PySem.W.kitOne K (.ref C7) (.ref CE) = some true) (ve7 : PySem.W.kitOne K (.ref C7) (.type "ValueError") = some true)
    (r8 : KRow K C8 [(C0, false), (C1, false), (C2, false), (C3, false), (C4, false), (C5, false), (C6, false), (C7, false), (C8, true), (C9, false), (C10, false), (C11, false), (C12, false), (C13, false), (C14, false), (C15, false), (C16, false), (C17, false), (C18, false), (C19, false)]) (be8 : PySem.W.kitOne K (.ref C8) (.ref CE) = some true) (ve8 : PySem.W.kitOne K (.ref C8) (.type "ValueError") = some true)
    (r9 : KRow K C9 [(C0, false), (C1, false), (C2, false), (C3, false), (C4, false), (C5, false), (C6, false), (C7, false), (C8, false), (C9, true), (C10, false), (C11, false), (C12, false), (C13, false), (C14, false), (C15, false), (C16, false), (C17, false), (C18, false), (C19, false)]) (be9 : PySem.W.kitOne K (.ref C9) (.ref CE) = some true) (ve9 : PySem.W.kitOne K (.ref C9) (.type "ValueError") = some true)
    (r10 : KRow K C10 [(C0, false), (C1, false), (C2, false), (C3, false), (C4, false), (C5, false), (C6, false), (C7, false), (C8, false), (C9, false), (C10, true), (C11, false), (C12, false), (C13, false), (C14, false), (C15, false), (C16, false), (C17, false), (C18, false), (C19, false)]) (be10 : PySem.W.kitOne K (.ref C10) (.ref CE) = some true) (ve10 : PySem.W.kitOne K (.ref C10) (.type "ValueError") = some true)
    (r11 : KRow K C11 [(C0, false), (C1, false), (C2, false), (C3, false), (C4, false), (C5, false), (C6, false), (C7, false), (C8, false), (C9, false), (C10, false), (C11, true), (C12, false), (C13, false), (C14, false), (C15, false), (C16, false), (C17, false), (C18, false), (C19, false)]) (be11 : PySem.W.kitOne K (.ref C11) (.ref CE) = some true) (ve11 : PySem.W.kitOne K (.ref C11) (.type "ValueError") = some true)
    (r12 : KRow K C12 [(C0, false), (C1, false), (C2, false), (C3, false), (C4, false), (C5, false), (C6, false), (C7, false), (C8, false), (C9, false), (C10, false), (C11, false), (C12, true), (C13, false), (C14, false), (C15, false), (C16, false), (C17, false), (C18, false), (C19, false)]) (be12 : PySem.W.kitOne K (.ref C12) (.ref CE) = some true) (ve12 : PySem.W.kitOne K (.ref C12) (.type "ValueError") = some true)
    (r13 : KRow K C13 [(C0, false), (C1, false), (C2, false), (C3, false), (C4, false), (C5, false), (C6, false), (C7, false), (C8, false), (C9, false), (C10, false), (C11, false), (C12, false), (C13, true), (C14, false), (C15, false), (C16, false), (C17, false), (C18, false), (C19, false)]) (be13 : PySem.W.kitOne K (.ref C13) (.ref CE) = some true) (ve13 : PySem.W.kitOne K (.ref C13) (.type "ValueError") = some true)
    (r14 : KRow K C14 [(C0, false), (C1, false), (C2, false), (C3, false), (C4, false), (C5, false), (C6, false), (C7, false), (C8, false), (C9, false), (C10, false), (C11, false), (C12, false), (C13, false), (C14, true), (C15, false), (C16, false), (C17, false), (C18, false), (C19, false)]) (be14 : PySem.W.kitOne K (.ref C14) (.ref CE) = some true) (ve14 : PySem.W.kitOne K (.ref C14) (.type "ValueError") = some true)
    (r15 : KRow K C15 [(C0, false), (C1, false), (C2, false), (C3, false), (C4, false), (C5, false), (C6, false), (C7, false), (C8, false), (C9, false), (C10, false), (C11, false), (C12, false), (C13, false), (C14, false), (C15, true), (C16, false), (C17, false), (C18, false), (C19, false)]) (be15 : PySem.W.kitOne K (.ref C15) (.ref CE) = some true) (ve15 : PySem.W.kitOne K (.ref C15) (.type "ValueError") = some true)
    (r16 : KRow K C16 [(C0, false), (C1, false), (C2, false), (C3, false), (C4, false), (C5, false), (C6, false), (C7, false), (C8, false), (C9, false), (C10, false), (C11, false), (C12, false), (C13, false), (C14, false), (C15, false), (C16, true), (C17, false), (C18, false), (C19, false)]) (be16 : PySem.W.kitOne K (.ref C16) (.ref CE) = some true) (ve16 : PySem.W.kitOne K (.ref C16) (.type "ValueError") = some true)
    (r17 : KRow K C17 [(C0, false), (C1, false), (C2, false), (C3, false), (C4, false), (C5, false), (C6, false), (C7, false), (C8, false), (C9, false), (C10, false), (C11, false), (C12, false), (C13, false), (C14, false), (C15, false), (C16, false), (C17, true), (C18, false), (C19, false)]) (be17 : PySem.W.kitOne K (.ref C17) (.ref CE) = some true) (ve17 : PySem.W.kitOne K (.ref C17) (.type "ValueError") = some true)
    (r18 : KRow K C18 [(C0, false), (C1, false), (C2, false), (C3, false), (C4, false), (C5, false), (C6, false), (C7, false), (C8, false), (C9, false), (C10, false), (C11, false), (C12, false), (C13, false), (C14, false), (C15, false), (C16, false), (C17, false), (C18, true), (C19, false)]) (be18 : PySem.W.kitOne K (.ref C18) (.ref CE) = some true) (ve18 : PySem.W.kitOne K (.ref C18) (.type "ValueError") = some true)
    (r19 : KRow K C19 [(C0, false), (C1, false), (C2, false), (C3, false), (C4, false), (C5, false), (C6, false), (C7, false), (C8, false), (C9, false), (C10, false), (C11, false), (C12, false), (C13, false), (C14, false), (C15, false), (C16, false), (C17, false), (C18, false), (C19, true)]) (be19 : PySem.W.kitOne K (.ref C19) (.ref CE) = some true) (ve19 : PySem.W.kitOne K (.ref C19) (.type "ValueError") = some true)
    (a0 : PySem.W.nsIn K mainGlobals "_law_start" = some (some (.ref f0))) (l0 : K.lookup f0 = some ⟨oc100, od100, .func (PySem.W.fnOf "_law_start" "_law_start" (defArgs s_law_start) (defBody s_law_start) (defScope s_law_start) .none kV100 dc100 pm100 an100 cd100 ct100), sl100⟩) (c0 : PySem.W.codeIn K cd100 "_law_start" = true) (kk0 : PySem.W.keepIn K (.ref f0) = true)
    (a1 : PySem.W.nsIn K mainGlobals "_law_draw" = some (some (.ref f1))) (l1 : K.lookup f1 = some ⟨oc101, od101, .func (PySem.W.fnOf "_law_draw" "_law_draw" (defArgs s_law_draw) (defBody s_law_draw) (defScope s_law_draw) .none kV101 dc101 pm101 an101 cd101 ct101), sl101⟩) (c1 : PySem.W.codeIn K cd101 "_law_draw" = true) (kk1 : PySem.W.keepIn K (.ref f1) = true)
    (a2 : PySem.W.nsIn K mainGlobals "_law_signs" = some (some (.ref f2))) (l2 : K.lookup f2 = some ⟨oc102, od102, .func (PySem.W.fnOf "_law_signs" "_law_signs" (defArgs s_law_signs) (defBody s_law_signs) (defScope s_law_signs) .none kV102 dc102 pm102 an102 cd102 ct102), sl102⟩) (c2 : PySem.W.codeIn K cd102 "_law_signs" = true) (kk2 : PySem.W.keepIn K (.ref f2) = true)
    (a3 : PySem.W.nsIn K mainGlobals "_law_kinds" = some (some (.ref f3))) (l3 : K.lookup f3 = some ⟨oc103, od103, .func (PySem.W.fnOf "_law_kinds" "_law_kinds" (defArgs s_law_kinds) (defBody s_law_kinds) (defScope s_law_kinds) .none kV103 dc103 pm103 an103 cd103 ct103), sl103⟩) (c3 : PySem.W.codeIn K cd103 "_law_kinds" = true) (kk3 : PySem.W.keepIn K (.ref f3) = true)
    (a4 : PySem.W.nsIn K mainGlobals "_law_thing" = some (some (.ref f4))) (l4 : K.lookup f4 = some ⟨oc104, od104, .func (PySem.W.fnOf "_law_thing" "_law_thing" (defArgs s_law_thing) (defBody s_law_thing) (defScope s_law_thing) .none kV104 dc104 pm104 an104 cd104 ct104), sl104⟩) (c4 : PySem.W.codeIn K cd104 "_law_thing" = true) (kk4 : PySem.W.keepIn K (.ref f4) = true)
    (a5 : PySem.W.nsIn K mainGlobals "_law_all" = some (some (.ref f5))) (l5 : K.lookup f5 = some ⟨oc105, od105, .func (PySem.W.fnOf "_law_all" "_law_all" (defArgs s_law_all) (defBody s_law_all) (defScope s_law_all) .none kV105 dc105 pm105 an105 cd105 ct105), sl105⟩) (c5 : PySem.W.codeIn K cd105 "_law_all" = true) (kk5 : PySem.W.keepIn K (.ref f5) = true)
    (a6 : PySem.W.nsIn K mainGlobals "_law_named" = some (some (.ref f6))) (l6 : K.lookup f6 = some ⟨oc106, od106, .func (PySem.W.fnOf "_law_named" "_law_named" (defArgs s_law_named) (defBody s_law_named) (defScope s_law_named) .none kV106 dc106 pm106 an106 cd106 ct106), sl106⟩) (c6 : PySem.W.codeIn K cd106 "_law_named" = true) (kk6 : PySem.W.keepIn K (.ref f6) = true)
    (a7 : PySem.W.nsIn K mainGlobals "_law_keeps" = some (some (.ref f7))) (l7 : K.lookup f7 = some ⟨oc107, od107, .func (PySem.W.fnOf "_law_keeps" "_law_keeps" (defArgs s_law_keeps) (defBody s_law_keeps) (defScope s_law_keeps) .none kV107 dc107 pm107 an107 cd107 ct107), sl107⟩) (c7 : PySem.W.codeIn K cd107 "_law_keeps" = true) (kk7 : PySem.W.keepIn K (.ref f7) = true)
    (a8 : PySem.W.nsIn K mainGlobals "law" = some (some (.ref f8))) (l8 : K.lookup f8 = some ⟨oc108, od108, .func (PySem.W.fnOf "law" "law" (defArgs s_law) (defBody s_law) (defScope s_law) .none kV108 dc108 pm108 an108 cd108 ct108), sl108⟩) (c8 : PySem.W.codeIn K cd108 "law" = true) (kk8 : PySem.W.keepIn K (.ref f8) = true)
    (z_abs : PySem.W.nsIn K mainGlobals "abs" = some none)
    (z_list : PySem.W.nsIn K mainGlobals "list" = some none)
    (z_int : PySem.W.nsIn K mainGlobals "int" = some none)
    (z_len : PySem.W.nsIn K mainGlobals "len" = some none)
    (z_range : PySem.W.nsIn K mainGlobals "range" = some none)
    (z_isinstance : PySem.W.nsIn K mainGlobals "isinstance" = some none)
    (z_ValueError : PySem.W.nsIn K mainGlobals "ValueError" = some none) :
    ∃ fd : FuncData, (∀ (s : Shared) (v : Value), BindsTo s fd ⟨[v], []⟩ [("_law_script", v)]) ∧ ∀ base : Heap, K.In base → base.Ns mainGlobals mg → FnOk l.prog w K mg base CX0 4 fa fd ["_law_script"] (sp_law K) := by
  have e := hfa.symm.trans (PySem.W.mg_of X G a8)
  cases e
  have F_law_start := fun_mk (st := s_law_start) l0 c0 kk0
  have g_law_start := PySem.W.mg_of X G a0
  have b_law_start := F_law_start.binds (ps := ["_law_script"]) fun _ _ _ _ _ _ us hl => match us, hl with | [_], _ => rfl
  have F_law_draw := fun_mk (st := s_law_draw) l1 c1 kk1
  have g_law_draw := PySem.W.mg_of X G a1
  have b_law_draw := F_law_draw.binds (ps := ["_law_state", "_law_size"]) fun _ _ _ _ _ _ us hl => match us, hl with | [_, _], _ => rfl
  have F_law_signs := fun_mk (st := s_law_signs) l2 c2 kk2
  have g_law_signs := PySem.W.mg_of X G a2
  have b_law_signs := F_law_signs.binds (ps := []) fun _ _ _ _ _ _ us hl => match us, hl with | [], _ => rfl
  have F_law_kinds := fun_mk (st := s_law_kinds) l3 c3 kk3
  have g_law_kinds := PySem.W.mg_of X G a3
  have b_law_kinds := F_law_kinds.binds (ps := ["_law_e"]) fun _ _ _ _ _ _ us hl => match us, hl with | [_], _ => rfl
  have F_law_thing := fun_mk (st := s_law_thing) l4 c4 kk4
  have g_law_thing := PySem.W.mg_of X G a4
  have b_law_thing := F_law_thing.binds (ps := ["_law_state"]) fun _ _ _ _ _ _ us hl => match us, hl with | [_], _ => rfl
  have F_law_all := fun_mk (st := s_law_all) l5 c5 kk5
  have g_law_all := PySem.W.mg_of X G a5
  have b_law_all := F_law_all.binds (ps := ["_law_t"]) fun _ _ _ _ _ _ us hl => match us, hl with | [_], _ => rfl
  have F_law_named := fun_mk (st := s_law_named) l6 c6 kk6
  have g_law_named := PySem.W.mg_of X G a6
  have b_law_named := F_law_named.binds (ps := ["_law_t"]) fun _ _ _ _ _ _ us hl => match us, hl with | [_], _ => rfl
  have F_law_keeps := fun_mk (st := s_law_keeps) l7 c7 kk7
  have g_law_keeps := PySem.W.mg_of X G a7
  have b_law_keeps := F_law_keeps.binds (ps := ["_law_made", "_law_t"]) fun _ _ _ _ _ _ us hl => match us, hl with | [_, _], _ => rfl
  have F_law := fun_mk (st := s_law) l8 c8 kk8
  have m_abs := PySem.W.mg_none_of X G z_abs
  have m_list := PySem.W.mg_none_of X G z_list
  have m_int := PySem.W.mg_none_of X G z_int
  have m_len := PySem.W.mg_none_of X G z_len
  have m_range := PySem.W.mg_none_of X G z_range
  have m_isinstance := PySem.W.mg_none_of X G z_isinstance
  have m_ValueError := PySem.W.mg_none_of X G z_ValueError
  have g_BundleError := PySem.W.mg_of X G aCE
  have g18 := PySem.W.mg_of X G aIsSubstitutes
  have g19 := PySem.W.mg_of X G aNothingToUndo
  refine ⟨PySem.W.fnOf "law" "law" (defArgs s_law) (defBody s_law) (defScope s_law) .none kV108 dc108 pm108 an108 cd108 ct108, fun s v => .of_eq rfl, fun base _ _ => ?_⟩
  let C : Nat → Addr := fun i => ([C0, C1, C2, C3, C4, C5, C6, C7, C8, C9, C10, C11, C12, C13, C14, C15, C16, C17, C18, C19] : List Addr).getD i 0
  have N : Kin K C CE := ⟨fun k hk => match k, hk with | 0, _ => (E0 base).I | 1, _ => (E1 base).I | 2, _ => (E2 base).I | 3, _ => (E3 base).I | 4, _ => (E4 base).I | 5, _ => (E5 base).I | 6, _ => (E6 base).I | 7, _ => (E7 base).I | 8, _ => (E8 base).I | 9, _ => (E9 base).I | 10, _ => (E10 base).I | 11, _ => (E11 base).I | 12, _ => (E12 base).I | 13, _ => (E13 base).I | 14, _ => (E14 base).I | 15, _ => (E15 base).I | 16, _ => (E16 base).I | 17, _ => (E17 base).I | 18, _ => ⟨cl18, ga18, ⟨_, gg18⟩, eC18, cA18, gsn, gtk, mo18⟩ | 19, _ => ⟨cl19, ga19, ⟨_, gg19⟩, eC19, cA19, gsn, gtk, mo19⟩ | n + 20, h => absurd h (by omega),
    fun k j hk => match k, hk with | 0, _ => krow_one (k := 0) r0 rfl rfl j | 1, _ => krow_one (k := 1) r1 rfl rfl j | 2, _ => krow_one (k := 2) r2 rfl rfl j | 3, _ => krow_one (k := 3) r3 rfl rfl j | 4, _ => krow_one (k := 4) r4 rfl rfl j | 5, _ => krow_one (k := 5) r5 rfl rfl j | 6, _ => krow_one (k := 6) r6 rfl rfl j | 7, _ => krow_one (k := 7) r7 rfl rfl j | 8, _ => krow_one (k := 8) r8 rfl rfl j | 9, _ => krow_one (k := 9) r9 rfl rfl j | 10, _ => krow_one (k := 10) r10 rfl rfl j | 11, _ => krow_one (k := 11) r11 rfl rfl j | 12, _ => krow_one (k := 12) r12 rfl rfl j | 13, _ => krow_one (k := 13) r13 rfl rfl j | 14, _ => krow_one (k := 14) r14 rfl rfl j | 15, _ => krow_one (k := 15) r15 rfl rfl j | 16, _ => krow_one (k := 16) r16 rfl rfl j | 17, _ => krow_one (k := 17) r17 rfl rfl j | 18, _ => krow_one (k := 18) r18 rfl rfl j | 19, _ => krow_one (k := 19) r19 rfl rfl j | n + 20, h => absurd h (by omega),
    fun k hk => match k, hk with | 0, _ => be0 | 1, _ => be1 | 2, _ => be2 | 3, _ => be3 | 4, _ => be4 | 5, _ => be5 | 6, _ => be6 | 7, _ => be7 | 8, _ => be8 | 9, _ => be9 | 10, _ => be10 | 11, _ => be11 | 12, _ => be12 | 13, _ => be13 | 14, _ => be14 | 15, _ => be15 | 16, _ => be16 | 17, _ => be17 | 18, _ => be18 | 19, _ => be19 | n + 20, h => absurd h (by omega),
    fun k hk => match k, hk with | 0, _ => ve0 | 1, _ => ve1 | 2, _ => ve2 | 3, _ => ve3 | 4, _ => ve4 | 5, _ => ve5 | 6, _ => ve6 | 7, _ => ve7 | 8, _ => ve8 | 9, _ => ve9 | 10, _ => ve10 | 11, _ => ve11 | 12, _ => ve12 | 13, _ => ve13 | 14, _ => ve14 | 15, _ => ve15 | 16, _ => ve16 | 17, _ => ve17 | 18, _ => ve18 | 19, _ => ve19 | n + 20, h => absurd h (by omega)⟩
  have GD : FnOk l.prog w K mg base CX0 1 _ _ ["_law_state", "_law_size"] sp_draw := ok_draw F_law_draw m_int m_len
  have GK : FnOk l.prog w K mg base CX0 1 _ _ ["_law_e"] (sp_kinds C) := ok_kinds F_law_kinds N (E0 base).g (E1 base).g (E2 base).g (E3 base).g (E4 base).g (E5 base).g (E6 base).g (E7 base).g (E8 base).g (E9 base).g (E10 base).g (E11 base).g (E12 base).g (E13 base).g (E14 base).g (E15 base).g (E16 base).g (E17 base).g g18 g19 m_isinstance
  have GA : FnOk l.prog w K mg base CX0 3 _ _ ["_law_t"] (sp_made C) := ok_law_all F_law_all (E0 base) (E1 base) (E2 base) (E3 base) (E4 base) (E5 base) (E6 base) (E7 base) (E8 base) (E9 base) (E10 base) (E11 base) (E12 base) (E13 base) (E14 base) (E15 base) (E16 base) (E17 base) x18 g18 k18 x19 g19 k19
  have GN : FnOk l.prog w K mg base CX0 3 _ _ ["_law_t"] (sp_made C) := ok_law_named F_law_named (E0 base) (E1 base) (E2 base) (E3 base) (E4 base) (E5 base) (E6 base) (E7 base) (E8 base) (E9 base) (E10 base) (E11 base) (E12 base) (E13 base) (E14 base) (E15 base) (E16 base) (E17 base) x18 g18 k18 x19 g19 k19 kb0 kb1 kb2 kb3 kb4 kb5 kb6 kb7 kb8 kb9 kb10 kb11 kb12 kb13 kb14 kb15 kb16 kb17
  have GP : FnOk l.prog w K mg base CX0 3 _ _ ["_law_made", "_law_t"] (sp_keeps C) := ok_keeps F_law_keeps N g_BundleError (E0 base).X (E1 base).X (E2 base).X (E3 base).X (E4 base).X (E5 base).X (E6 base).X (E7 base).X (E8 base).X (E9 base).X (E10 base).X (E11 base).X (E12 base).X (E13 base).X (E14 base).X (E15 base).X (E16 base).X (E17 base).X (E0 base).no (E1 base).no (E2 base).no (E3 base).no (E4 base).no (E5 base).no (E7 base).no (E8 base).no (E9 base).no (E10 base).no (E11 base).no (E12 base).no (E13 base).no (E14 base).no (E15 base).no (E16 base).no (E17 base).no (E6 base).no (E6 base).no2 F_law_kinds b_law_kinds g_law_kinds GK m_isinstance m_range m_ValueError
  exact ok_law (C := C) F_law F_law_start b_law_start g_law_start (ok_start F_law_start m_abs m_list) F_law_draw b_law_draw g_law_draw GD F_law_thing b_law_thing g_law_thing (ok_thing F_law_thing F_law_draw b_law_draw g_law_draw GD F_law_signs b_law_signs g_law_signs (ok_signs F_law_signs) m_len m_range) F_law_all b_law_all g_law_all GA F_law_named b_law_named g_law_named GN F_law_keeps b_law_keeps g_law_keeps GP m_range
end Lw
open PySem PySem.W PyProof.Rows
set_option maxHeartbeats 0 in
theorem PySem.Challenge.cw_bundlekinds_k02_errors_holds : PySem.Challenge.rw_bundlekinds_k02_errors.Holds := by
  w_on; o_law; k_head; (case hw => w_witness2)
  k_fill
  refine L2.walk_of (l := PySem.Challenge.rw_bundlekinds_k02_errors) (n := 63) (k := 4) (x := "_law_script") (CX := fun _ => L2.CX0) (sp := fun w => Lw.sp_law _) rfl (by decide) rfl ⟨rfl, by decide, by decide⟩ (fun w h Y => PySem.W.kIn_of Y) ?F (fun _ _ a ns hl _ hS => ⟨a, ns, rfl, hS, hl, fun _ => rfl⟩) (fun _ _ _ _ _ h => h)
  case F =>
    intro w mg fa h KX G hmg
    have P0 := Lw.er1_mk (P := PySem.Challenge.rw_bundlekinds_k02_errors.prog) (w := w) KX G (c := "BadName") (f := "name") (qn := "BadName.__init__") Lw.s_iBadName Lw.ok_iBadName (fun F => F.binds fun _ _ _ _ _ _ us hl => match us, hl with | [_, _], _ => rfl) Lw.kb_iBadName (by k_is) (by k_is) (by k_is) (by k_is) (by k_is) (by k_is) (by k_is) (by k_is) (by k_is) (by k_is) (by k_is) (by k_is) (by k_is) (by k_is) (by k_is) (by k_is) (by k_is) (by k_is) (by k_is)
    have P1 := Lw.er1_mk (P := PySem.Challenge.rw_bundlekinds_k02_errors.prog) (w := w) KX G (c := "DuplicateName") (f := "name") (qn := "DuplicateName.__init__") Lw.s_iDuplicateName Lw.ok_iDuplicateName (fun F => F.binds fun _ _ _ _ _ _ us hl => match us, hl with | [_, _], _ => rfl) Lw.kb_iDuplicateName (by k_is) (by k_is) (by k_is) (by k_is) (by k_is) (by k_is) (by k_is) (by k_is) (by k_is) (by k_is) (by k_is) (by k_is) (by k_is) (by k_is) (by k_is) (by k_is) (by k_is) (by k_is) (by k_is)
    have P2 := Lw.er1_mk (P := PySem.Challenge.rw_bundlekinds_k02_errors.prog) (w := w) KX G (c := "UnknownName") (f := "name") (qn := "UnknownName.__init__") Lw.s_iUnknownName Lw.ok_iUnknownName (fun F => F.binds fun _ _ _ _ _ _ us hl => match us, hl with | [_, _], _ => rfl) Lw.kb_iUnknownName (by k_is) (by k_is) (by k_is) (by k_is) (by k_is) (by k_is) (by k_is) (by k_is) (by k_is) (by k_is) (by k_is) (by k_is) (by k_is) (by k_is) (by k_is) (by k_is) (by k_is) (by k_is) (by k_is)
    have P3 := Lw.er1_mk (P := PySem.Challenge.rw_bundlekinds_k02_errors.prog) (w := w) KX G (c := "BadCount") (f := "count") (qn := "BadCount.__init__") Lw.s_iBadCount Lw.ok_iBadCount (fun F => F.binds fun _ _ _ _ _ _ us hl => match us, hl with | [_, _], _ => rfl) Lw.kb_iBadCount (by k_is) (by k_is) (by k_is) (by k_is) (by k_is) (by k_is) (by k_is) (by k_is) (by k_is) (by k_is) (by k_is) (by k_is) (by k_is) (by k_is) (by k_is) (by k_is) (by k_is) (by k_is) (by k_is)
    have P4 := Lw.er1_mk (P := PySem.Challenge.rw_bundlekinds_k02_errors.prog) (w := w) KX G (c := "BadBundle") (f := "value") (qn := "BadBundle.__init__") Lw.s_iBadBundle Lw.ok_iBadBundle (fun F => F.binds fun _ _ _ _ _ _ us hl => match us, hl with | [_, _], _ => rfl) Lw.kb_iBadBundle (by k_is) (by k_is) (by k_is) (by k_is) (by k_is) (by k_is) (by k_is) (by k_is) (by k_is) (by k_is) (by k_is) (by k_is) (by k_is) (by k_is) (by k_is) (by k_is) (by k_is) (by k_is) (by k_is)
    have P5 := Lw.er1_mk (P := PySem.Challenge.rw_bundlekinds_k02_errors.prog) (w := w) KX G (c := "BadWorth") (f := "worth") (qn := "BadWorth.__init__") Lw.s_iBadWorth Lw.ok_iBadWorth (fun F => F.binds fun _ _ _ _ _ _ us hl => match us, hl with | [_, _], _ => rfl) Lw.kb_iBadWorth (by k_is) (by k_is) (by k_is) (by k_is) (by k_is) (by k_is) (by k_is) (by k_is) (by k_is) (by k_is) (by k_is) (by k_is) (by k_is) (by k_is) (by k_is) (by k_is) (by k_is) (by k_is) (by k_is)
    have P6 := Lw.er2_mk (P := PySem.Challenge.rw_bundlekinds_k02_errors.prog) (w := w) KX G (c := "NotRising") (f := "value") (f2 := "name") (qn := "NotRising.__init__") Lw.s_iNotRising Lw.ok_iNotRising (fun F => F.binds fun _ _ _ _ _ _ us hl => match us, hl with | [_, _, _], _ => rfl) Lw.kb_iNotRising (by k_is) (by k_is) (by k_is) (by k_is) (by k_is) (by k_is) (by k_is) (by k_is) (by k_is) (by k_is) (by k_is) (by k_is) (by k_is) (by k_is) (by k_is) (by k_is) (by k_is) (by k_is) (by k_is) (by k_is)
    have P7 := Lw.er1_mk (P := PySem.Challenge.rw_bundlekinds_k02_errors.prog) (w := w) KX G (c := "BadText") (f := "text") (qn := "BadText.__init__") Lw.s_iBadText Lw.ok_iBadText (fun F => F.binds fun _ _ _ _ _ _ us hl => match us, hl with | [_, _], _ => rfl) Lw.kb_iBadText (by k_is) (by k_is) (by k_is) (by k_is) (by k_is) (by k_is) (by k_is) (by k_is) (by k_is) (by k_is) (by k_is) (by k_is) (by k_is) (by k_is) (by k_is) (by k_is) (by k_is) (by k_is) (by k_is)
    have P8 := Lw.er1_mk (P := PySem.Challenge.rw_bundlekinds_k02_errors.prog) (w := w) KX G (c := "BadPrice") (f := "price") (qn := "BadPrice.__init__") Lw.s_iBadPrice Lw.ok_iBadPrice (fun F => F.binds fun _ _ _ _ _ _ us hl => match us, hl with | [_, _], _ => rfl) Lw.kb_iBadPrice (by k_is) (by k_is) (by k_is) (by k_is) (by k_is) (by k_is) (by k_is) (by k_is) (by k_is) (by k_is) (by k_is) (by k_is) (by k_is) (by k_is) (by k_is) (by k_is) (by k_is) (by k_is) (by k_is)
    have P9 := Lw.er1_mk (P := PySem.Challenge.rw_bundlekinds_k02_errors.prog) (w := w) KX G (c := "BadUnit") (f := "value") (qn := "BadUnit.__init__") Lw.s_iBadUnit Lw.ok_iBadUnit (fun F => F.binds fun _ _ _ _ _ _ us hl => match us, hl with | [_, _], _ => rfl) Lw.kb_iBadUnit (by k_is) (by k_is) (by k_is) (by k_is) (by k_is) (by k_is) (by k_is) (by k_is) (by k_is) (by k_is) (by k_is) (by k_is) (by k_is) (by k_is) (by k_is) (by k_is) (by k_is) (by k_is) (by k_is)
    have P10 := Lw.er1_mk (P := PySem.Challenge.rw_bundlekinds_k02_errors.prog) (w := w) KX G (c := "BadFactor") (f := "value") (qn := "BadFactor.__init__") Lw.s_iBadFactor Lw.ok_iBadFactor (fun F => F.binds fun _ _ _ _ _ _ us hl => match us, hl with | [_, _], _ => rfl) Lw.kb_iBadFactor (by k_is) (by k_is) (by k_is) (by k_is) (by k_is) (by k_is) (by k_is) (by k_is) (by k_is) (by k_is) (by k_is) (by k_is) (by k_is) (by k_is) (by k_is) (by k_is) (by k_is) (by k_is) (by k_is)
    have P11 := Lw.er1_mk (P := PySem.Challenge.rw_bundlekinds_k02_errors.prog) (w := w) KX G (c := "UnlikeGoods") (f := "names") (qn := "UnlikeGoods.__init__") Lw.s_iUnlikeGoods Lw.ok_iUnlikeGoods (fun F => F.binds fun _ _ _ _ _ _ us hl => match us, hl with | [_, _], _ => rfl) Lw.kb_iUnlikeGoods (by k_is) (by k_is) (by k_is) (by k_is) (by k_is) (by k_is) (by k_is) (by k_is) (by k_is) (by k_is) (by k_is) (by k_is) (by k_is) (by k_is) (by k_is) (by k_is) (by k_is) (by k_is) (by k_is)
    have P12 := Lw.er1_mk (P := PySem.Challenge.rw_bundlekinds_k02_errors.prog) (w := w) KX G (c := "NotWanted") (f := "value") (qn := "NotWanted.__init__") Lw.s_iNotWanted Lw.ok_iNotWanted (fun F => F.binds fun _ _ _ _ _ _ us hl => match us, hl with | [_, _], _ => rfl) Lw.kb_iNotWanted (by k_is) (by k_is) (by k_is) (by k_is) (by k_is) (by k_is) (by k_is) (by k_is) (by k_is) (by k_is) (by k_is) (by k_is) (by k_is) (by k_is) (by k_is) (by k_is) (by k_is) (by k_is) (by k_is)
    have P13 := Lw.er1_mk (P := PySem.Challenge.rw_bundlekinds_k02_errors.prog) (w := w) KX G (c := "NotHigher") (f := "name") (qn := "NotHigher.__init__") Lw.s_iNotHigher Lw.ok_iNotHigher (fun F => F.binds fun _ _ _ _ _ _ us hl => match us, hl with | [_, _], _ => rfl) Lw.kb_iNotHigher (by k_is) (by k_is) (by k_is) (by k_is) (by k_is) (by k_is) (by k_is) (by k_is) (by k_is) (by k_is) (by k_is) (by k_is) (by k_is) (by k_is) (by k_is) (by k_is) (by k_is) (by k_is) (by k_is)
    have P14 := Lw.er1_mk (P := PySem.Challenge.rw_bundlekinds_k02_errors.prog) (w := w) KX G (c := "NotNested") (f := "value") (qn := "NotNested.__init__") Lw.s_iNotNested Lw.ok_iNotNested (fun F => F.binds fun _ _ _ _ _ _ us hl => match us, hl with | [_, _], _ => rfl) Lw.kb_iNotNested (by k_is) (by k_is) (by k_is) (by k_is) (by k_is) (by k_is) (by k_is) (by k_is) (by k_is) (by k_is) (by k_is) (by k_is) (by k_is) (by k_is) (by k_is) (by k_is) (by k_is) (by k_is) (by k_is)
    have P15 := Lw.er1_mk (P := PySem.Challenge.rw_bundlekinds_k02_errors.prog) (w := w) KX G (c := "BadSteps") (f := "steps") (qn := "BadSteps.__init__") Lw.s_iBadSteps Lw.ok_iBadSteps (fun F => F.binds fun _ _ _ _ _ _ us hl => match us, hl with | [_, _], _ => rfl) Lw.kb_iBadSteps (by k_is) (by k_is) (by k_is) (by k_is) (by k_is) (by k_is) (by k_is) (by k_is) (by k_is) (by k_is) (by k_is) (by k_is) (by k_is) (by k_is) (by k_is) (by k_is) (by k_is) (by k_is) (by k_is)
    have P16 := Lw.er1_mk (P := PySem.Challenge.rw_bundlekinds_k02_errors.prog) (w := w) KX G (c := "BadSharing") (f := "sharing") (qn := "BadSharing.__init__") Lw.s_iBadSharing Lw.ok_iBadSharing (fun F => F.binds fun _ _ _ _ _ _ us hl => match us, hl with | [_, _], _ => rfl) Lw.kb_iBadSharing (by k_is) (by k_is) (by k_is) (by k_is) (by k_is) (by k_is) (by k_is) (by k_is) (by k_is) (by k_is) (by k_is) (by k_is) (by k_is) (by k_is) (by k_is) (by k_is) (by k_is) (by k_is) (by k_is)
    have P17 := Lw.er1_mk (P := PySem.Challenge.rw_bundlekinds_k02_errors.prog) (w := w) KX G (c := "BadBound") (f := "bound") (qn := "BadBound.__init__") Lw.s_iBadBound Lw.ok_iBadBound (fun F => F.binds fun _ _ _ _ _ _ us hl => match us, hl with | [_, _], _ => rfl) Lw.kb_iBadBound (by k_is) (by k_is) (by k_is) (by k_is) (by k_is) (by k_is) (by k_is) (by k_is) (by k_is) (by k_is) (by k_is) (by k_is) (by k_is) (by k_is) (by k_is) (by k_is) (by k_is) (by k_is) (by k_is)
    refine' Lw.all_mk KX G hmg P0.1 P0.2 P1.1 P1.2 P2.1 P2.2 P3.1 P3.2 P4.1 P4.2 P5.1 P5.2 P6.1 P6.2 P7.1 P7.2 P8.1 P8.2 P9.1 P9.2 P10.1 P10.2 P11.1 P11.2 P12.1 P12.2 P13.1 P13.2 P14.1 P14.2 P15.1 P15.2 P16.1 P16.2 P17.1 P17.2 ?aIsSubstitutes ?x18 ?k18 ?cl18 ?ga18 ?gg18 ?eC18 ?cA18 ?mo18 ?aNothingToUndo ?x19 ?k19 ?cl19 ?ga19 ?gg19 ?eC19 ?cA19 ?mo19 ?gsn ?gtk ?aCE ?r0 ?be0 ?ve0 ?r1 ?be1 ?ve1 ?r2 ?be2 ?ve2 ?r3 ?be3 ?ve3 ?r4 ?be4 ?ve4 ?r5 ?be5 ?ve5 ?r6 ?be6 ?ve6 ?r7 ?be7 ?ve7 ?r8 ?be8 ?ve8 ?r9 ?be9 ?ve9 ?r10 ?be10 ?ve10 ?r11 ?be11 ?ve11 ?r12 ?be12 ?ve12 ?r13 ?be13 ?ve13 ?r14 ?be14 ?ve14 ?r15 ?be15 ?ve15 ?r16 ?be16 ?ve16 ?r17 ?be17 ?ve17 ?r18 ?be18 ?ve18 ?r19 ?be19 ?ve19 ?a0 ?l0 ?c0 ?kk0 ?a1 ?l1 ?c1 ?kk1 ?a2 ?l2 ?c2 ?kk2 ?a3 ?l3 ?c3 ?kk3 ?a4 ?l4 ?c4 ?kk4 ?a5 ?l5 ?c5 ?kk5 ?a6 ?l6 ?c6 ?kk6 ?a7 ?l7 ?c7 ?kk7 ?a8 ?l8 ?c8 ?kk8 ?z_abs ?z_list ?z_int ?z_len ?z_range ?z_isinstance ?z_ValueError
    (case aIsSubstitutes => k_is); (case aNothingToUndo => k_is); (case aCE => k_is); (case x18 => k_exc); (case k18 => k_is); (case cl18 => first | k_is | rfl | decide +kernel); (case ga18 => k_is); (case gg18 => k_is); (case eC18 => k_is); (case cA18 => k_is); (case mo18 => k_is); (case x19 => k_exc); (case k19 => k_is); (case cl19 => first | k_is | rfl | decide +kernel); (case ga19 => k_is); (case gg19 => k_is); (case eC19 => k_is); (case cA19 => k_is); (case mo19 => k_is); (case gsn => k_is); (case gtk => k_is); (case r0 => exact ⟨by first | k_is | rfl | decide +kernel, by first | k_is | rfl | decide +kernel, by first | k_is | rfl | decide +kernel, by first | k_is | rfl | decide +kernel, by first | k_is | rfl | decide +kernel, by first | k_is | rfl | decide +kernel, by first | k_is | rfl | decide +kernel, by first | k_is | rfl | decide +kernel, by first | k_is | rfl | decide +kernel, by first | k_is | rfl | decide +kernel, by first | k_is | rfl | decide +kernel, by first | k_is | rfl | decide +kernel, by first | k_is | rfl | decide +kernel, by first | k_is | rfl | decide +kernel, by first | k_is | rfl | decide +kernel, by first | k_is | rfl | decide +kernel, by first | k_is | rfl | decide +kernel, by first | k_is | rfl | decide +kernel, by first | k_is | rfl | decide +kernel, by first | k_is | rfl | decide +kernel, trivial⟩); (case be0 => first | k_is | rfl | decide +kernel); (case ve0 => first | k_is | rfl | decide +kernel); (case r1 => exact ⟨by first | k_is | rfl | decide +kernel, by first | k_is | rfl | decide +kernel, by first | k_is | rfl | decide +kernel, by first | k_is | rfl | decide +kernel, by first | k_is | rfl | decide +kernel, by first | k_is | rfl | decide +kernel, by first | k_is | rfl | decide +kernel, by first | k_is | rfl | decide +kernel, by first | k_is | rfl | decide +kernel, by first | k_is | rfl | decide +kernel, by first | k_is | rfl | decide +kernel, by first | k_is | rfl | decide +kernel, by first | k_is | rfl | decide +kernel, by first | k_is | rfl | decide +kernel, by first | k_is | rfl | decide +kernel, by first | k_is | rfl | decide +kernel, by first | k_is | rfl | decide +kernel, by first | k_is | rfl | decide +kernel, by first | k_is | rfl | decide +kernel, by first | k_is | rfl | decide +kernel, trivial⟩); (case be1 => first | k_is | rfl | decide +kernel); (case ve1 => first | k_is | rfl | decide +kernel); (case r2 => exact ⟨by first | k_is | rfl | decide +kernel, by first | k_is | rfl | decide +kernel, by first | k_is | rfl | decide +kernel, by first | k_is | rfl | decide +kernel, by first | k_is | rfl | decide +kernel, by first | k_is | rfl | decide +kernel, by first | k_is | rfl | decide +kernel, by first | k_is | rfl | decide +kernel, by first | k_is | rfl | decide +kernel, by first | k_is | rfl | decide +kernel, by first | k_is | rfl | decide +kernel, by first | k_is | rfl | decide +kernel, by first | k_is | rfl | decide +kernel, by first | k_is | rfl | decide +kernel, by first | k_is | rfl | decide +kernel, by first | k_is | rfl | decide +kernel, by first | k_is | rfl | decide +kernel, by first | k_is | rfl | decide +kernel, by first | k_is | rfl | decide +kernel, by first | k_is | rfl | decide +kernel, trivial⟩); (case be2 => first | k_is | rfl | decide +kernel); (case ve2 => first | k_is | rfl | decide +kernel); (case r3 => exact ⟨by first | k_is | rfl | decide +kernel, by first | k_is | rfl | decide +kernel, by first | k_is | rfl | decide +kernel, by first | k_is | rfl | decide +kernel, by first | k_is | rfl | decide +kernel, by first | k_is | rfl | decide +kernel, by first | k_is | rfl | decide +kernel, by first | k_is | rfl | decide +kernel, by first | k_is | rfl | decide +kernel, by first | k_is | rfl | decide +kernel, by first | k_is | rfl | decide +kernel, by first | k_is | rfl | decide +kernel, by first | k_is | rfl | decide +kernel, by first | k_is | rfl | decide +kernel, by first | k_is | rfl | decide +kernel, by first | k_is | rfl | decide +kernel, by first | k_is | rfl | decide +kernel, by first | k_is | rfl | decide +kernel, by first | k_is | rfl | decide +kernel, by first | k_is | rfl | decide +kernel, trivial⟩); (case be3 => first | k_is | rfl | decide +kernel); (case ve3 => first | k_is | rfl | decide +kernel); (case r4 => exact ⟨by first | k_is | rfl | decide +kernel, by first | k_is | rfl | decide +kernel, by first | k_is | rfl | decide +kernel, by first | k_is | rfl | decide +kernel, by first | k_is | rfl | decide +kernel, by first | k_is | rfl | decide +kernel, by first | k_is | rfl | decide +kernel, by first | k_is | rfl | decide +kernel, by first | k_is | rfl | decide +kernel, by first | k_is | rfl | decide +kernel, by first | k_is | rfl | decide +kernel, by first | k_is | rfl | decide +kernel, by first | k_is | rfl | decide +kernel, by first | k_is | rfl | decide +kernel, by first | k_is | rfl | decide +kernel, by first | k_is | rfl | decide +kernel, by first | k_is | rfl | decide +kernel, by first | k_is | rfl | decide +kernel, by first | k_is | rfl | decide +kernel, by first | k_is | rfl | decide +kernel, trivial⟩); (case be4 => first | k_is | rfl | decide +kernel); (case ve4 => first | k_is | rfl | decide +kernel); (case r5 => exact ⟨by first | k_is | rfl | decide +kernel, by first | k_is | rfl | decide +kernel, by first | k_is | rfl | decide +kernel, by first | k_is | rfl | decide +kernel, by first | k_is | rfl | decide +kernel, by first | k_is | rfl | decide +kernel, by first | k_is | rfl | decide +kernel, by first | k_is | rfl | decide +kernel, by first | k_is | rfl | decide +kernel, by first | k_is | rfl | decide +kernel, by first | k_is | rfl | decide +kernel, by first | k_is | rfl | decide +kernel, by first | k_is | rfl | decide +kernel, by first | k_is | rfl | decide +kernel, by first | k_is | rfl | decide +kernel, by first | k_is | rfl | decide +kernel, by first | k_is | rfl | decide +kernel, by first | k_is | rfl | decide +kernel, by first | k_is | rfl | decide +kernel, by first | k_is | rfl | decide +kernel, trivial⟩); (case be5 => first | k_is | rfl | decide +kernel); (case ve5 => first | k_is | rfl | decide +kernel); (case r6 => exact ⟨by first | k_is | rfl | decide +kernel, by first | k_is | rfl | decide +kernel, by first | k_is | rfl | decide +kernel, by first | k_is | rfl | decide +kernel, by first | k_is | rfl | decide +kernel, by first | k_is | rfl | decide +kernel, by first | k_is | rfl | decide +kernel, by first | k_is | rfl | decide +kernel, by first | k_is | rfl | decide +kernel, by first | k_is | rfl | decide +kernel, by first | k_is | rfl | decide +kernel, by first | k_is | rfl | decide +kernel, by first | k_is | rfl | decide +kernel, by first | k_is | rfl | decide +kernel, by first | k_is | rfl | decide +kernel, by first | k_is | rfl | decide +kernel, by first | k_is | rfl | decide +kernel, by first | k_is | rfl | decide +kernel, by first | k_is | rfl | decide +kernel, by first | k_is | rfl | decide +kernel, trivial⟩); (case be6 => first | k_is | rfl | decide +kernel); (case ve6 => first | k_is | rfl | decide +kernel); (case r7 => exact ⟨by first | k_is | rfl | decide +kernel, by first | k_is | rfl | decide +kernel, by first | k_is | rfl | decide +kernel, by first | k_is | rfl | decide +kernel, by first | k_is | rfl | decide +kernel, by first | k_is | rfl | decide +kernel, by first | k_is | rfl | decide +kernel, by first | k_is | rfl | decide +kernel, by first | k_is | rfl | decide +kernel, by first | k_is | rfl | decide +kernel, by first | k_is | rfl | decide +kernel, by first | k_is | rfl | decide +kernel, by first | k_is | rfl | decide +kernel, by first | k_is | rfl | decide +kernel, by first | k_is | rfl | decide +kernel, by first | k_is | rfl | decide +kernel, by first | k_is | rfl | decide +kernel, by first | k_is | rfl | decide +kernel, by first | k_is | rfl | decide +kernel, by first | k_is | rfl | decide +kernel, trivial⟩); (case be7 => first | k_is | rfl | decide +kernel); (case ve7 => first | k_is | rfl | decide +kernel); (case r8 => exact ⟨by first | k_is | rfl | decide +kernel, by first | k_is | rfl | decide +kernel, by first | k_is | rfl | decide +kernel, by first | k_is | rfl | decide +kernel, by first | k_is | rfl | decide +kernel, by first | k_is | rfl | decide +kernel, by first | k_is | rfl | decide +kernel, by first | k_is | rfl | decide +kernel, by first | k_is | rfl | decide +kernel, by first | k_is | rfl | decide +kernel, by first | k_is | rfl | decide +kernel, by first | k_is | rfl | decide +kernel, by first | k_is | rfl | decide +kernel, by first | k_is | rfl | decide +kernel, by first | k_is | rfl | decide +kernel, by first | k_is | rfl | decide +kernel, by first | k_is | rfl | decide +kernel, by first | k_is | rfl | decide +kernel, by first | k_is | rfl | decide +kernel, by first | k_is | rfl | decide +kernel, trivial⟩); (case be8 => first | k_is | rfl | decide +kernel); (case ve8 => first | k_is | rfl | decide +kernel); (case r9 => exact ⟨by first | k_is | rfl | decide +kernel, by first | k_is | rfl | decide +kernel, by first | k_is | rfl | decide +kernel, by first | k_is | rfl | decide +kernel, by first | k_is | rfl | decide +kernel, by first | k_is | rfl | decide +kernel, by first | k_is | rfl | decide +kernel, by first | k_is | rfl | decide +kernel, by first | k_is | rfl | decide +kernel, by first | k_is | rfl | decide +kernel, by first | k_is | rfl | decide +kernel, by first | k_is | rfl | decide +kernel, by first | k_is | rfl | decide +kernel, by first | k_is | rfl | decide +kernel, by first | k_is | rfl | decide +kernel, by first | k_is | rfl | decide +kernel, by first | k_is | rfl | decide +kernel, by first | k_is | rfl | decide +kernel, by first | k_is | rfl | decide +kernel, by first | k_is | rfl | decide +kernel, trivial⟩); (case be9 => first | k_is | rfl | decide +kernel); (case ve9 => first | k_is | rfl | decide +kernel); (case r10 => exact ⟨by first | k_is | rfl | decide +kernel, by first | k_is | rfl | decide +kernel, by first | k_is | rfl | decide +kernel, by first | k_is | rfl | decide +kernel, by first | k_is | rfl | decide +kernel, by first | k_is | rfl | decide +kernel, by first | k_is | rfl | decide +kernel, by first | k_is | rfl | decide +kernel, by first | k_is | rfl | decide +kernel, by first | k_is | rfl | decide +kernel, by first | k_is | rfl | decide +kernel, by first | k_is | rfl | decide +kernel, by first | k_is | rfl | decide +kernel, by first | k_is | rfl | decide +kernel, by first | k_is | rfl | decide +kernel, by first | k_is | rfl | decide +kernel, by first | k_is | rfl | decide +kernel, by first | k_is | rfl | decide +kernel, by first | k_is | rfl | decide +kernel, by first | k_is | rfl | decide +kernel, trivial⟩); (case be10 => first | k_is | rfl | decide +kernel); (case ve10 => first | k_is | rfl | decide +kernel); (case r11 => exact ⟨by first | k_is | rfl | decide +kernel, by first | k_is | rfl | decide +kernel, by first | k_is | rfl | decide +kernel, by first | k_is | rfl | decide +kernel, by first | k_is | rfl | decide +kernel, by first | k_is | rfl | decide +kernel, by first | k_is | rfl | decide +kernel, by first | k_is | rfl | decide +kernel, by first | k_is | rfl | decide +kernel, by first | k_is | rfl | decide +kernel, by first | k_is | rfl | decide +kernel, by first | k_is | rfl | decide +kernel, by first | k_is | rfl | decide +kernel, by first | k_is | rfl | decide +kernel, by first | k_is | rfl | decide +kernel, by first | k_is | rfl | decide +kernel, by first | k_is | rfl | decide +kernel, by first | k_is | rfl | decide +kernel, by first | k_is | rfl | decide +kernel, by first | k_is | rfl | decide +kernel, trivial⟩); (case be11 => first | k_is | rfl | decide +kernel); (case ve11 => first | k_is | rfl | decide +kernel); (case r12 => exact ⟨by first | k_is | rfl | decide +kernel, by first | k_is | rfl | decide +kernel, by first | k_is | rfl | decide +kernel, by first | k_is | rfl | decide +kernel, by first | k_is | rfl | decide +kernel, by first | k_is | rfl | decide +kernel, by first | k_is | rfl | decide +kernel, by first | k_is | rfl | decide +kernel, by first | k_is | rfl | decide +kernel, by first | k_is | rfl | decide +kernel, by first | k_is | rfl | decide +kernel, by first | k_is | rfl | decide +kernel, by first | k_is | rfl | decide +kernel, by first | k_is | rfl | decide +kernel, by first | k_is | rfl | decide +kernel, by first | k_is | rfl | decide +kernel, by first | k_is | rfl | decide +kernel, by first | k_is | rfl | decide +kernel, by first | k_is | rfl | decide +kernel, by first | k_is | rfl | decide +kernel, trivial⟩); (case be12 => first | k_is | rfl | decide +kernel); (case ve12 => first | k_is | rfl | decide +kernel); (case r13 => exact ⟨by first | k_is | rfl | decide +kernel, by first | k_is | rfl | decide +kernel, by first | k_is | rfl | decide +kernel, by first | k_is | rfl | decide +kernel, by first | k_is | rfl | decide +kernel, by first | k_is | rfl | decide +kernel, by first | k_is | rfl | decide +kernel, by first | k_is | rfl | decide +kernel, by first | k_is | rfl | decide +kernel, by first | k_is | rfl | decide +kernel, by first | k_is | rfl | decide +kernel, by first | k_is | rfl | decide +kernel, by first | k_is | rfl | decide +kernel, by first | k_is | rfl | decide +kernel, by first | k_is | rfl | decide +kernel, by first | k_is | rfl | decide +kernel, by first | k_is | rfl | decide +kernel, by first | k_is | rfl | decide +kernel, by first | k_is | rfl | decide +kernel, by first | k_is | rfl | decide +kernel, trivial⟩); (case be13 => first | k_is | rfl | decide +kernel); (case ve13 => first | k_is | rfl | decide +kernel); (case r14 => exact ⟨by first | k_is | rfl | decide +kernel, by first | k_is | rfl | decide +kernel, by first | k_is | rfl | decide +kernel, by first | k_is | rfl | decide +kernel, by first | k_is | rfl | decide +kernel, by first | k_is | rfl | decide +kernel, by first | k_is | rfl | decide +kernel, by first | k_is | rfl | decide +kernel, by first | k_is | rfl | decide +kernel, by first | k_is | rfl | decide +kernel, by first | k_is | rfl | decide +kernel, by first | k_is | rfl | decide +kernel, by first | k_is | rfl | decide +kernel, by first | k_is | rfl | decide +kernel, by first | k_is | rfl | decide +kernel, by first | k_is | rfl | decide +kernel, by first | k_is | rfl | decide +kernel, by first | k_is | rfl | decide +kernel, by first | k_is | rfl | decide +kernel, by first | k_is | rfl | decide +kernel, trivial⟩); (case be14 => first | k_is | rfl | decide +kernel); (case ve14 => first | k_is | rfl | decide +kernel); (case r15 => exact ⟨by first | k_is | rfl | decide +kernel, by first | k_is | rfl | decide +kernel, by first | k_is | rfl | decide +kernel, by first | k_is | rfl | decide +kernel, by first | k_is | rfl | decide +kernel, by first | k_is | rfl | decide +kernel, by first | k_is | rfl | decide +kernel, by first | k_is | rfl | decide +kernel, by first | k_is | rfl | decide +kernel, by first | k_is | rfl | decide +kernel, by first | k_is | rfl | decide +kernel, by first | k_is | rfl | decide +kernel, by first | k_is | rfl | decide +kernel, by first | k_is | rfl | decide +kernel, by first | k_is | rfl | decide +kernel, by first | k_is | rfl | decide +kernel, by first | k_is | rfl | decide +kernel, by first | k_is | rfl | decide +kernel, by first | k_is | rfl | decide +kernel, by first | k_is | rfl | decide +kernel, trivial⟩); (case be15 => first | k_is | rfl | decide +kernel); (case ve15 => first | k_is | rfl | decide +kernel); (case r16 => exact ⟨by first | k_is | rfl | decide +kernel, by first | k_is | rfl | decide +kernel, by first | k_is | rfl | decide +kernel, by first | k_is | rfl | decide +kernel, by first | k_is | rfl | decide +kernel, by first | k_is | rfl | decide +kernel, by first | k_is | rfl | decide +kernel, by first | k_is | rfl | decide +kernel, by first | k_is | rfl | decide +kernel, by first | k_is | rfl | decide +kernel, by first | k_is | rfl | decide +kernel, by first | k_is | rfl | decide +kernel, by first | k_is | rfl | decide +kernel, by first | k_is | rfl | decide +kernel, by first | k_is | rfl | decide +kernel, by first | k_is | rfl | decide +kernel, by first | k_is | rfl | decide +kernel, by first | k_is | rfl | decide +kernel, by first | k_is | rfl | decide +kernel, by first | k_is | rfl | decide +kernel, trivial⟩); (case be16 => first | k_is | rfl | decide +kernel); (case ve16 => first | k_is | rfl | decide +kernel); (case r17 => exact ⟨by first | k_is | rfl | decide +kernel, by first | k_is | rfl | decide +kernel, by first | k_is | rfl | decide +kernel, by first | k_is | rfl | decide +kernel, by first | k_is | rfl | decide +kernel, by first | k_is | rfl | decide +kernel, by first | k_is | rfl | decide +kernel, by first | k_is | rfl | decide +kernel, by first | k_is | rfl | decide +kernel, by first | k_is | rfl | decide +kernel, by first | k_is | rfl | decide +kernel, by first | k_is | rfl | decide +kernel, by first | k_is | rfl | decide +kernel, by first | k_is | rfl | decide +kernel, by first | k_is | rfl | decide +kernel, by first | k_is | rfl | decide +kernel, by first | k_is | rfl | decide +kernel, by first | k_is | rfl | decide +kernel, by first | k_is | rfl | decide +kernel, by first | k_is | rfl | decide +kernel, trivial⟩); (case be17 => first | k_is | rfl | decide +kernel); (case ve17 => first | k_is | rfl | decide +kernel); (case r18 => exact ⟨by first | k_is | rfl | decide +kernel, by first | k_is | rfl | decide +kernel, by first | k_is | rfl | decide +kernel, by first | k_is | rfl | decide +kernel, by first | k_is | rfl | decide +kernel, by first | k_is | rfl | decide +kernel, by first | k_is | rfl | decide +kernel, by first | k_is | rfl | decide +kernel, by first | k_is | rfl | decide +kernel, by first | k_is | rfl | decide +kernel, by first | k_is | rfl | decide +kernel, by first | k_is | rfl | decide +kernel, by first | k_is | rfl | decide +kernel, by first | k_is | rfl | decide +kernel, by first | k_is | rfl | decide +kernel, by first | k_is | rfl | decide +kernel, by first | k_is | rfl | decide +kernel, by first | k_is | rfl | decide +kernel, by first | k_is | rfl | decide +kernel, by first | k_is | rfl | decide +kernel, trivial⟩); (case be18 => first | k_is | rfl | decide +kernel); (case ve18 => first | k_is | rfl | decide +kernel); (case r19 => exact ⟨by first | k_is | rfl | decide +kernel, by first | k_is | rfl | decide +kernel, by first | k_is | rfl | decide +kernel, by first | k_is | rfl | decide +kernel, by first | k_is | rfl | decide +kernel, by first | k_is | rfl | decide +kernel, by first | k_is | rfl | decide +kernel, by first | k_is | rfl | decide +kernel, by first | k_is | rfl | decide +kernel, by first | k_is | rfl | decide +kernel, by first | k_is | rfl | decide +kernel, by first | k_is | rfl | decide +kernel, by first | k_is | rfl | decide +kernel, by first | k_is | rfl | decide +kernel, by first | k_is | rfl | decide +kernel, by first | k_is | rfl | decide +kernel, by first | k_is | rfl | decide +kernel, by first | k_is | rfl | decide +kernel, by first | k_is | rfl | decide +kernel, by first | k_is | rfl | decide +kernel, trivial⟩); (case be19 => first | k_is | rfl | decide +kernel); (case ve19 => first | k_is | rfl | decide +kernel); (case a0 => k_is); (case l0 => k_is); (case c0 => k_is); (case kk0 => k_is); (case a1 => k_is); (case l1 => k_is); (case c1 => k_is); (case kk1 => k_is); (case a2 => k_is); (case l2 => k_is); (case c2 => k_is); (case kk2 => k_is); (case a3 => k_is); (case l3 => k_is); (case c3 => k_is); (case kk3 => k_is); (case a4 => k_is); (case l4 => k_is); (case c4 => k_is); (case kk4 => k_is); (case a5 => k_is); (case l5 => k_is); (case c5 => k_is); (case kk5 => k_is); (case a6 => k_is); (case l6 => k_is); (case c6 => k_is); (case kk6 => k_is); (case a7 => k_is); (case l7 => k_is); (case c7 => k_is); (case kk7 => k_is); (case a8 => k_is); (case l8 => k_is); (case c8 => k_is); (case kk8 => k_is); (case z_abs => k_is); (case z_list => k_is); (case z_int => k_is); (case z_len => k_is); (case z_range => k_is); (case z_isinstance => k_is); (case z_ValueError => k_is)
