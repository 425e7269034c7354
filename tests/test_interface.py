"""The names that DOC.md tells, each with how many arguments it takes by their places."""

import importlib
import inspect
import unittest

FUNCTIONS = {
    "whole": "is_whole/1 divisor/2 divisor_of/1 common/2 root_floor/1",
    "ratios": "is_fraction/1 fraction/2 plus/2 minus/2 times/2 over/2 less/2 sign/1",
    "polys": "is_poly/1 poly/1 p_plus/2 p_minus/2 p_times/2 scaled/2 power/2 raised/2 derived/1 put_in/2 degree/1 value/2"
             " sign_at/2",
    "parts": "content/1 plain/1 parted/2 whole_part/2 shared/2 shared_paper/2 shared_right/3",
    "free": "is_free/1 free_part/1 free_paper/1 free_right/2 layers/1",
    "changes": "changes/1 above/2 below/2 between/3",
    "cuts": "roots_right/2 cuts_of/1 roots_of/1",
    "numbers": "is_number/1 number/1 halved/1 beside/2",
    "order": "order/2 order_paper/2 order_right/3 sign_of/2 sign_paper/2 sign_right/3",
    "forms": "is_form/1 form/1 f_plus/2 f_times/2 f_scaled/2 f_value/2 f_of/2 f_put/3 f_weights/2",
    "taking": "taken_out/3 taken_right/4",
    "sums": "sum_of/2 sum_paper/2 sum_right/3",
    "opposites": "minus_of/1 inverse_of/1",
    "products": "product_of/2 product_paper/2 product_right/3 difference/2 quotient/2",
    "modular": "by_number/2 m_plus/3 m_minus/3 m_times/3 inverse_by/2 m_parted/3 single/2 m_shared/3 m_power/4",
    "split": "is_prime/1 splits_by/2 free_by/2 parts_by/2",
    "lift": "lifted/4",
    "factors": "factors/1 part_paper/1 part_right/2 factor_paper/1 factors_right/2",
    "quotients": "is_quotient/1 q_of/2 q_paper/2 q_right/3 q_plus/2 q_minus/2 q_times/2 q_derived/1 q_over/2 q_value/2",
    "radicals": "is_root_sum/1 root_sum/1 s_plus/2 s_minus/2 s_times/2 s_sign/1 s_paper/1 s_right/2 s_number/1",
    "linear": "solved/2 solved_right/3",
    "texts": "show_fraction/1 show_poly/1 show_number/1 read_fraction/1 read_poly/1 read_number/1",
}


class Interface(unittest.TestCase):

    def test_functions(self):
        for name, told in FUNCTIONS.items():
            module = importlib.import_module("rootcourt." + name)
            for entry in told.split():
                function, many = entry.split("/")
                found = inspect.signature(getattr(module, function)).parameters
                self.assertEqual(len(found), int(many), entry)
                self.assertTrue(all(one.default is one.empty for one in found.values()), entry)

    def test_the_desk(self):
        desk = importlib.import_module("rootcourt.desk").Desk
        self.assertTrue(inspect.isclass(desk))
        self.assertEqual(len(inspect.signature(desk).parameters), 0)
        self.assertEqual(len(inspect.signature(desk().say).parameters), 1)


if __name__ == "__main__":
    unittest.main()
